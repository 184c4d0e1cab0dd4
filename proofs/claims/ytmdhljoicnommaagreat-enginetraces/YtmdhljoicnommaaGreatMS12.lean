/-
  J8Check
  J8RCheck
-/
import Derived.Test.YtmdhljoicnommaaGreatMS11
import Derived.Deep.RegionHeld3
namespace Go.Proofs.YtmdhljoicnommaaGreat
set_option maxHeartbeats 12800000
open Go.RowKit
set_option linter.unusedVariables false
set_option maxRecDepth 100000
theorem lthere_any (h:Int)(w:World):Cl 137 #[I4 h] w fun e a=>e=.returned (.bool (decide (0<=h/\h<7)))/\w=a:=by
 by_cases h0:0<=h<;>by_cases h1:h<7
 all_goals go_enter Tryz.func137,Tryz.ntmps137
 all_goals go_wp2
 all_goals go_ret
 all_goals exact ⟨rb (by simp [h0,h1]),rfl⟩
theorem there_as {h:Int}{r:Bool}(b:Hid (r=decide (0<=h/\h<7)))(w:World):Cl 137 #[I4 h] w fun e a=>e=.returned (.bool r)/\w=a:=by
 rw [b.out];exact lthere_any h w
def fitsL (a t:Ty):Int:=if a.k≠t.k then 33 else if t.k=1/\withinB a.lo a.hi t.lo t.hi=false then 35 else 0
def fitL:List Ty->List Ty->Int
 | a :: l,t :: ts=>if fitsL a t≠0 then fitsL a t else fitL l ts
 | _,_=>0
def hcheckL (h:Int) (xs:List Ty):Int:=if ¬ (0<=h/\h<7) then 34 else if xs.length≠(argsL h).length then 2 else fitL xs (argsL h)
theorem grow2b {w c:World}{a b:Obj}(h:Below ((w.alloc a).alloc b).heap.size ((w.alloc a).alloc b) c):Bw w c :=
 (((Below.refl _ _).alloc (Nat.le_refl _) a).alloc (by simp) b).trans (h.mono (by simp;omega))
theorem reti {a b:Int}(h:a=b):Ending.returned (I4 a)=.returned (I4 b):=by rw [h]
theorem lwithin_as {a A b B:Int}{r:Bool}(h:Hid (r=withinB a A b B))(w:World):Cl 135 #[.agg #[U8 a,U8 A],.agg #[U8 b,U8 B]] w fun e c=>e=.returned (.bool r)/\Bw w c:=by
 rw [h.out];exact lwithin_any a A b B w
theorem rwithin_as {a A b B:Int}{r:Bool}(h:Hid (r=withinB a A b B))(w:World):Cl 125 #[.agg #[U8 a,U8 A],.agg #[U8 b,U8 B]] w fun e c=>e=.returned (.bool r)/\Bw w c:=by
 rw [h.out];exact rwithin_any a A b B w
theorem hfits_any (a t:Ty)(w:World):Cl 138 #[tyV a,tyV t] w fun e s=>e=.returned (I4 (fitsL a t))/\Bw w s:=by
 obtain ⟨ak,f,c,am⟩:=a;obtain ⟨n,g,i,l⟩:=t
 by_cases hk:ak=n
 ·subst hk
  by_cases h1:ak=1
  ·subst h1;obtain ⟨r,k⟩:∃ r,Hid (r=withinB f c g i):=⟨_,rfl⟩
   cases r
   ·have b:Hid (fitsL ⟨1,f,c,am⟩ ⟨1,g,i,l⟩=35):=by show _=_;unfold fitsL;simp [<- k.out]
    go_enter Tryz.func138,Tryz.ntmps138
    go_wp2_with (go_at_call 135;go_must (refine (lwithin_as k _).mono ?_);rintro e o ⟨rfl,d⟩)
    go_ret;exact ⟨reti b.out.symm,grow2b d⟩
   ·have b:Hid (fitsL ⟨1,f,c,am⟩ ⟨1,g,i,l⟩=0):=by show _=_;unfold fitsL;simp [<- k.out]
    go_enter Tryz.func138,Tryz.ntmps138
    go_wp2_with (go_at_call 135;go_must (refine (lwithin_as k _).mono ?_);rintro e o ⟨rfl,d⟩)
    go_ret;exact ⟨reti b.out.symm,grow2b d⟩
  ·have b:Hid (fitsL ⟨ak,f,c,am⟩ ⟨ak,g,i,l⟩=0):=by show _=_;unfold fitsL;simp [h1]
   go_enter Tryz.func138,Tryz.ntmps138;go_wp2;go_ret;exact ⟨reti b.out.symm,by go_grown⟩
 ·have b:Hid (fitsL ⟨ak,f,c,am⟩ ⟨n,g,i,l⟩=33):=by show _=_;unfold fitsL;simp [hk]
  go_enter Tryz.func138,Tryz.ntmps138;go_wp2;go_ret;exact ⟨reti b.out.symm,by go_grown⟩
theorem hfits_as {a t:Ty}{r:Int}(h:Hid (r=fitsL a t))(w:World):Cl 138 #[tyV a,tyV t] w fun e b=>e=.returned (I4 r)/\Bw w b:=by
 rw [h.out];exact hfits_any a t w
theorem qAf {B:Nat}{Z w:World}(h:Below B Z.drew w):Below B Z w:=⟨h.os,h.tape,h.output,h.size,h.block⟩
theorem fitL_step {xs a:List Ty}{k:Nat}(h:xs.length=a.length)(b:k<a.length):fitL (xs.drop k) (a.drop k)=if fitsL (xs.getD k Ty.nil) (a.getD k Ty.nil)≠0 then fitsL (xs.getD k Ty.nil) (a.getD k Ty.nil) else fitL (xs.drop (k+1)) (a.drop (k+1)):=by
 have d:xs.drop k=xs.getD k Ty.nil :: xs.drop (k+1):=by rw [List.drop_eq_getElem_cons (by omega)];simp [List.getD,h ▸ b]
 have c:a.drop k=a.getD k Ty.nil :: a.drop (k+1):=by rw [List.drop_eq_getElem_cons (by omega)];simp [List.getD,b]
 rw [d,c];rfl
theorem fitL_end {xs a:List Ty}{k:Nat}(b:a.length<=k):fitL (xs.drop k) (a.drop k)=0:=by
 rw [List.drop_eq_nil_of_le b]
 cases xs.drop k<;>rfl
abbrev At2 (w:World) (b off:Nat) (x:Ty) (n off':Nat) (t:Ty):Prop :=
 (w.cell? ⟨b,off,none⟩=some (.int .i64 x.k)/\w.cell? ⟨b,off+1,none⟩=some (.int .u64 x.lo)/\w.cell? ⟨b,off+2,none⟩=some (.int .u64 x.hi)/\w.cell? ⟨b,off+3,none⟩=some (.int .i64 x.m)) /\
  w.cell? ⟨n,off',none⟩=some (.int .i64 t.k)/\w.cell? ⟨n,off'+1,none⟩=some (.int .u64 t.lo)/\w.cell? ⟨n,off'+2,none⟩=some (.int .u64 t.hi)/\w.cell? ⟨n,off'+3,none⟩=some (.int .i64 t.m)
theorem At2.below {w d:World}{b off n a B:Nat}{x t:Ty}(h:At2 w b off x n a t)(c:Below B w d)(f:b<B)(g:n<B):At2 d b off x n a t:=⟨AtT.below (t:=x) h.1 c f,AtT.below (t:=t) h.2 c g⟩
theorem hcheck_any (h:Int)(v:Value)(xs:List Ty)(w:World)(Y:SeesT w v xs):Cl 116 #[I4 h,v] w fun e c=>e=.returned (I4 (hcheckL h xs))/\Bw w c:=by
 by_cases hc:0<=h/\h<7
 ·have Q:Hid (true=decide (0<=h/\h<7)):=show true=decide (0<=h/\h<7) from (decide_eq_true hc).symm
  by_cases hl:xs.length=(argsL h).length
  ·have G:Hid (hcheckL h xs=fitL xs (argsL h)):=by show _=_;unfold hcheckL;rw [if_neg (by omega),if_neg (by omega)]
   have HL:Hid (xs.length=(argsL h).length):=hl;obtain ⟨a,cap,rfl,aa,a8,O,F⟩:=Y;have HS:Hid (xs≠[]->∃ b off,a=some ⟨b,off,none⟩/\b<w.heap.size/\∀ k,k<xs.length->AtT w b (off+k*4) (xs.getD k Ty.nil)):=F;obtain ⟨n,z⟩:∃ n,Hid (xs.length=n):=⟨_,rfl⟩;obtain ⟨f,D⟩:∃ f,Hid (f=argsL h):=⟨_,rfl⟩
   have l:Hid (f.length=n):=by show _=_;rw [D.out,<- HL.out,z.out]
   rw [z.out] at aa ⊢;unfold maxLen at a8;clear hl hc F O HL;go_enter Tryz.func116,Tryz.ntmps116
   go_wp2_with (first
    | (go_at_call 137;go_must (refine (there_as Q _).mono ?_);rintro e w1 ⟨rfl,rfl⟩)
    | (go_at_call 117;go_must (refine (args_any h _).mono ?_);rintro e u ⟨u2,rfl,d,o⟩;go_must (rw [<- D.out] at d;obtain ⟨a2,c2,rfl,N,L,_,y⟩:=qCs d;(have ab:Hid (f≠[]->∃ b off,a2=some ⟨b,off,none⟩/\b<u.heap.size/\∀ k,k<f.length->AtT u b (off+k*4) (f.getD k Ty.nil)):=y);rw [l.out] at N ⊢;unfold maxLen at L;clear d y)))
   have a5:=o.size
   go_loopw [21] (fun i wr=>∃ k:Nat,k<=n/\i=I4 k/\fitL xs f=fitL (xs.drop k) (f.drop k)/\Bw u wr) (fun i _=>n-(intOf i).toNat)
   case atStart=>exact ⟨0,by omega,rfl,rfl,Below.refl _ _⟩
   case round =>
    obtain ⟨k,hk,rfl,hf,s⟩:=hrel;have HF:Hid (fitL xs f=fitL (xs.drop k) (f.drop k)):=hf;have a3:=s.size;clear hf
    by_cases hlt:k<n
    ·obtain ⟨b,off,rfl,hb,a0⟩:=HS.out (fun h=>by have:=z.out;rw [h] at this;simp at this;omega);obtain ⟨b2,a7,rfl,a9,J⟩:=ab.out (fun h=>by have:=l.out;rw [h] at this;simp at this;omega);obtain ⟨x,HX⟩:∃ x,Hid (x=xs.getD k Ty.nil):=⟨_,rfl⟩;obtain ⟨t,a6⟩:∃ t,Hid (t=f.getD k Ty.nil):=⟨_,rfl⟩;obtain ⟨r,HR⟩:∃ r,Hid (r=fitsL x t):=⟨_,rfl⟩
     have hA:AtT wr b (off+k*4) x:=by rw [HX.out];exact ((a0 k (by have:=z.out;omega)).below o hb).below s (by omega)
     have a1:AtT wr b2 (a7+k*4) t:=by rw [a6.out];exact (J k (by have:=l.out;omega)).below s a9
     have HQ:Hid (fitL xs f=if r≠0 then r else fitL (xs.drop (k+1)) (f.drop (k+1))):=by
      show _=_
      rw [HF.out,fitL_step (by rw [z.out,l.out]) (by rw [l.out];exact hlt),HR.out,HX.out,a6.out]
     obtain ⟨S,T,U,M⟩:=x;obtain ⟨P,V,X,R⟩:=t;obtain ⟨g0,g1,g2,g3⟩:=id a1;simp only at g0 g1 g2 g3;obtain ⟨Z,HZ,E,a4,ac⟩:∃ Z,Hid (Z=wr.alloc (tyO ⟨P,V,X,R⟩))/\At2 Z b (off+k*4) ⟨S,T,U,M⟩ wr.heap.size 0 ⟨P,V,X,R⟩/\Bw wr Z/\wr.heap.size<Z.heap.size :=
      ⟨_,rfl,⟨AtT.below (t:=⟨S,T,U,M⟩) hA ((Below.refl wr.heap.size wr).alloc (Nat.le_refl _) _) (by omega),by go_cell,by go_cell,by go_cell,by go_cell⟩,(Below.refl _ _).alloc (Nat.le_refl _) _,by simp⟩
     clear a0 J hA a1 HF
     by_cases hr:r=0
     ·subst hr;go_wp2;rw [<- HZ.out];clear g0 g1 g2 g3
      go_region_held3 (fun c=>(c.cell? ⟨b,off+k*4,none⟩=some (I4 S)/\c.cell? ⟨b,off+k*4+1,none⟩=some (U8 T)/\c.cell? ⟨b,off+k*4+2,none⟩=some (U8 U)/\c.cell? ⟨b,off+k*4+3,none⟩=some (I4 M))/\c.cell? ⟨wr.heap.size,0,none⟩=some (I4 P)/\c.cell? ⟨wr.heap.size,1,none⟩=some (U8 V)/\c.cell? ⟨wr.heap.size,2,none⟩=some (U8 X)/\c.cell? ⟨wr.heap.size,3,none⟩=some (I4 R))
       (first|exact B|exact E)
       (first|(go_at_call 138;go_must (refine (hfits_as HR _).mono ?_);rintro e K ⟨rfl,g⟩;go_must (have A:Bw Z K:=qAf g;have B:=At2.below E A (by omega) (by omega);have I:Bw u K:=(s.trans (a4.mono a3)).trans (A.mono (by omega));clear g)))
      go_wp2
      go_roundw
      case rel=>exact ⟨k+1,by omega,by go_num,by rw [HQ.out];simp,I⟩
      case measure=>simp [intOf];omega
     ·go_wp2;rw [<- HZ.out];clear g0 g1 g2 g3
      go_region_held3 (fun c=>(c.cell? ⟨b,off+k*4,none⟩=some (I4 S)/\c.cell? ⟨b,off+k*4+1,none⟩=some (U8 T)/\c.cell? ⟨b,off+k*4+2,none⟩=some (U8 U)/\c.cell? ⟨b,off+k*4+3,none⟩=some (I4 M))/\c.cell? ⟨wr.heap.size,0,none⟩=some (I4 P)/\c.cell? ⟨wr.heap.size,1,none⟩=some (U8 V)/\c.cell? ⟨wr.heap.size,2,none⟩=some (U8 X)/\c.cell? ⟨wr.heap.size,3,none⟩=some (I4 R))
       (first|exact B|exact E)
       (first|(go_at_call 138;go_must (refine (hfits_as HR _).mono ?_);rintro e K ⟨rfl,g⟩;go_must (have A:Bw Z K:=qAf g;have B:=At2.below E A (by omega) (by omega);have I:Bw u K:=(s.trans (a4.mono a3)).trans (A.mono (by omega));clear g)))
      go_wp2;go_ret;exact ⟨reti (by rw [G.out,<- D.out,HQ.out,if_pos hr]),o.trans (I.mono a5)⟩
    ·obtain rfl:k=n:=by omega
     go_wp2;go_ret;exact ⟨reti (by rw [G.out,<- D.out,HF.out,fitL_end (by rw [l.out];exact Nat.le_refl _)]),o.trans (s.mono a5)⟩
  ·have G:Hid (hcheckL h xs=2):=by show _=_;unfold hcheckL;rw [if_neg (by omega),if_pos hl]
   obtain ⟨a,cap,rfl⟩:=Y.shape;obtain ⟨n,z⟩:∃ n,Hid (xs.length=n):=⟨_,rfl⟩;obtain ⟨m,HM⟩:∃ m,Hid ((argsL h).length=m):=⟨_,rfl⟩;rw [z.out,HM.out] at hl;rw [z.out];clear Y hc;go_enter Tryz.func116,Tryz.ntmps116
   go_wp2_with (first
    | (go_at_call 137;go_must (refine (there_as Q _).mono ?_);rintro e w1 ⟨rfl,rfl⟩)
    | (go_at_call 117;go_must (refine (args_any h _).mono ?_);rintro e u ⟨u2,rfl,d,o⟩;go_must (obtain ⟨a2,c2,rfl⟩:=(qCs d).shape;rw [HM.out];clear d)))
   go_ret;exact ⟨reti G.out.symm,o⟩
 ·have Q:Hid (false=decide (0<=h/\h<7)):=show false=decide (0<=h/\h<7) from (decide_eq_false hc).symm
  have G:Hid (hcheckL h xs=34):=by show _=_;unfold hcheckL;rw [if_pos hc]
  clear Y;go_enter Tryz.func116,Tryz.ntmps116
  go_wp2_with (go_at_call 137;go_must (refine (there_as Q _).mono ?_);rintro e w1 ⟨rfl,rfl⟩)
  go_ret;exact ⟨reti G.out.symm,by go_grown⟩
theorem hrcheck_any (h:Int)(v:Value)(xs:List Ty)(w:World)(hs:SeesT w v xs):Cl 89 #[I4 h,v] w fun e c=>e=.returned (I4 (hcheckL h xs))/\Bw w c:=by
 by_cases hc:0<=h/\h<7
 ·obtain ⟨ad,ac⟩:=id hc
  by_cases hl:xs.length=(argsL h).length
  ·have L:Hid (hcheckL h xs=fitL xs (argsL h)):=by show _=_;unfold hcheckL;rw [if_neg (by omega),if_neg (by omega)]
   have HL:Hid (xs.length=(argsL h).length):=hl;obtain ⟨a,cap,rfl,a8,a6,a0,R⟩:=hs;have HS:Hid (xs≠[]->∃ b off,a=some ⟨b,off,none⟩/\b<w.heap.size/\∀ k,k<xs.length->AtT w b (off+k*4) (xs.getD k Ty.nil)):=R;obtain ⟨n,M⟩:∃ n,Hid (xs.length=n):=⟨_,rfl⟩;obtain ⟨g,E⟩:∃ g,Hid (g=argsL h):=⟨_,rfl⟩
   have B:Hid (g.length=n):=by show _=_;rw [E.out,<- HL.out,M.out]
   rw [M.out] at a8 ⊢;unfold maxLen at a6;clear hl hc R a0 HL;go_enter Tryz.func89,Tryz.ntmps89
   go_wp2_with (first
    | (go_at_call 88;go_must (refine (rargs_any h _).mono ?_);rintro e D ⟨u2,rfl,l,z⟩;go_must (rw [<- E.out] at l;obtain ⟨a2,c2,rfl,Z,X,_,F⟩:=qCs l;(have a9:Hid (g≠[]->∃ b off,a2=some ⟨b,off,none⟩/\b<D.heap.size/\∀ k,k<g.length->AtT D b (off+k*4) (g.getD k Ty.nil)):=F);rw [B.out] at Z ⊢;unfold maxLen at X;clear l F)))
   have U:=z.size
   go_loopw [6] (fun i wr=>∃ k:Nat,k<=n/\i=I4 k/\fitL xs g=fitL (xs.drop k) (g.drop k)/\Bw D wr) (fun i _=>n-(intOf i).toNat)
   case atStart=>exact ⟨0,by omega,rfl,rfl,Below.refl _ _⟩
   case round =>
    obtain ⟨k,hk,rfl,hf,u⟩:=hrel;have HF:Hid (fitL xs g=fitL (xs.drop k) (g.drop k)):=hf;have a4:=u.size;clear hf
    by_cases hlt:k<n
    ·obtain ⟨b,off,rfl,hb,a1⟩:=HS.out (fun h=>by have:=M.out;rw [h] at this;simp at this;omega);obtain ⟨f,d,rfl,a7,T⟩:=a9.out (fun h=>by have:=B.out;rw [h] at this;simp at this;omega);obtain ⟨x,HX⟩:∃ x,Hid (x=xs.getD k Ty.nil):=⟨_,rfl⟩;obtain ⟨t,a5⟩:∃ t,Hid (t=g.getD k Ty.nil):=⟨_,rfl⟩
     have hA:AtT wr b (off+k*4) x:=by rw [HX.out];exact ((a1 k (by have:=M.out;omega)).below z hb).below u (by omega)
     have a3:AtT wr f (d+k*4) t:=by rw [a5.out];exact (T k (by have:=B.out;omega)).below u a7
     have HQ:Hid (fitL xs g=if fitsL x t≠0 then fitsL x t else fitL (xs.drop (k+1)) (g.drop (k+1))):=by
      show _=_
      rw [HF.out,fitL_step (by rw [M.out,B.out]) (by rw [B.out];exact hlt),HX.out,a5.out]
     obtain ⟨Q,G,I,O⟩:=x;obtain ⟨tk,J,K,P⟩:=t;have s:At2 wr b (off+k*4) ⟨Q,G,I,O⟩ f (d+k*4) ⟨tk,J,K,P⟩:=⟨hA,a3⟩
     have ab:b<wr.heap.size:=by omega
     have aa:f<wr.heap.size:=by omega
     clear a1 T hA a3 HF
     by_cases hkk:Q=tk
     ·subst hkk
      by_cases h1:Q=1
      ·subst h1;obtain ⟨r,Y⟩:∃ r,Hid (r=withinB G I J K):=⟨_,rfl⟩
       cases r
       ·have A:Hid (fitL xs g=35):=by show _=_;rw [HQ.out];simp [fitsL,<- Y.out]
        go_wp2
        go_region_held3 (fun c=>(c.cell? ⟨b,off+k*4,none⟩=some (I4 1)/\c.cell? ⟨b,off+k*4+1,none⟩=some (U8 G)/\c.cell? ⟨b,off+k*4+2,none⟩=some (U8 I)/\c.cell? ⟨b,off+k*4+3,none⟩=some (I4 O))/\c.cell? ⟨f,d+k*4,none⟩=some (I4 1)/\c.cell? ⟨f,d+k*4+1,none⟩=some (U8 J)/\c.cell? ⟨f,d+k*4+2,none⟩=some (U8 K)/\c.cell? ⟨f,d+k*4+3,none⟩=some (I4 P))
         (first|exact o|exact s)
         (first|(fail))
        go_wp2
        go_region_held3 (fun c=>(c.cell? ⟨b,off+k*4,none⟩=some (I4 1)/\c.cell? ⟨b,off+k*4+1,none⟩=some (U8 G)/\c.cell? ⟨b,off+k*4+2,none⟩=some (U8 I)/\c.cell? ⟨b,off+k*4+3,none⟩=some (I4 O))/\c.cell? ⟨f,d+k*4,none⟩=some (I4 1)/\c.cell? ⟨f,d+k*4+1,none⟩=some (U8 J)/\c.cell? ⟨f,d+k*4+2,none⟩=some (U8 K)/\c.cell? ⟨f,d+k*4+3,none⟩=some (I4 P))
         (first|exact o|exact s)
         (first|(go_at_call 125;go_must (refine (rwithin_as Y _).mono ?_);rintro e V ⟨rfl,y⟩;go_must (have N:Bw wr V:=qAf (qAf y);have o:=At2.below s N (by omega) (by omega);have S:Bw D V:=u.trans (N.mono a4);clear y)))
        go_wp2;go_ret;exact ⟨reti (by rw [L.out,<- E.out,A.out]),z.trans (S.mono U)⟩
       ·have A:Hid (fitL xs g=fitL (xs.drop (k+1)) (g.drop (k+1))):=by show _=_;rw [HQ.out];simp [fitsL,<- Y.out]
        go_wp2
        go_region_held3 (fun c=>(c.cell? ⟨b,off+k*4,none⟩=some (I4 1)/\c.cell? ⟨b,off+k*4+1,none⟩=some (U8 G)/\c.cell? ⟨b,off+k*4+2,none⟩=some (U8 I)/\c.cell? ⟨b,off+k*4+3,none⟩=some (I4 O))/\c.cell? ⟨f,d+k*4,none⟩=some (I4 1)/\c.cell? ⟨f,d+k*4+1,none⟩=some (U8 J)/\c.cell? ⟨f,d+k*4+2,none⟩=some (U8 K)/\c.cell? ⟨f,d+k*4+3,none⟩=some (I4 P))
         (first|exact o|exact s)
         (first|(fail))
        go_wp2
        go_region_held3 (fun c=>(c.cell? ⟨b,off+k*4,none⟩=some (I4 1)/\c.cell? ⟨b,off+k*4+1,none⟩=some (U8 G)/\c.cell? ⟨b,off+k*4+2,none⟩=some (U8 I)/\c.cell? ⟨b,off+k*4+3,none⟩=some (I4 O))/\c.cell? ⟨f,d+k*4,none⟩=some (I4 1)/\c.cell? ⟨f,d+k*4+1,none⟩=some (U8 J)/\c.cell? ⟨f,d+k*4+2,none⟩=some (U8 K)/\c.cell? ⟨f,d+k*4+3,none⟩=some (I4 P))
         (first|exact o|exact s)
         (first|(go_at_call 125;go_must (refine (rwithin_as Y _).mono ?_);rintro e V ⟨rfl,y⟩;go_must (have N:Bw wr V:=qAf (qAf y);have o:=At2.below s N (by omega) (by omega);have S:Bw D V:=u.trans (N.mono a4);clear y)))
        go_wp2
        go_roundw
        case rel=>exact ⟨k+1,by omega,by go_num,A.out,S⟩
        case measure=>simp [intOf];omega
      ·have hg:(Q==1)=false:=by simp [h1]
       have A:Hid (fitL xs g=fitL (xs.drop (k+1)) (g.drop (k+1))):=by show _=_;rw [HQ.out];simp [fitsL,h1]
       go_wp2
       go_region_held3 (fun c=>(c.cell? ⟨b,off+k*4,none⟩=some (I4 Q)/\c.cell? ⟨b,off+k*4+1,none⟩=some (U8 G)/\c.cell? ⟨b,off+k*4+2,none⟩=some (U8 I)/\c.cell? ⟨b,off+k*4+3,none⟩=some (I4 O))/\c.cell? ⟨f,d+k*4,none⟩=some (I4 Q)/\c.cell? ⟨f,d+k*4+1,none⟩=some (U8 J)/\c.cell? ⟨f,d+k*4+2,none⟩=some (U8 K)/\c.cell? ⟨f,d+k*4+3,none⟩=some (I4 P))
        (first|exact o|exact s)
        (first|(fail))
       go_wp2;obtain ⟨⟨g0,g1,g2,g3⟩,d0,d1,d2,d3⟩:=s;simp only at d0;go_region;go_wp2
       go_roundw
       case rel=>exact ⟨k+1,by omega,by go_num,A.out,below_drewN u 2⟩
       case measure=>simp [intOf];omega
     ·have A:Hid (fitL xs g=33):=by show _=_;rw [HQ.out];simp [fitsL,hkk]
      go_wp2
      go_region_held3 (fun c=>(c.cell? ⟨b,off+k*4,none⟩=some (I4 Q)/\c.cell? ⟨b,off+k*4+1,none⟩=some (U8 G)/\c.cell? ⟨b,off+k*4+2,none⟩=some (U8 I)/\c.cell? ⟨b,off+k*4+3,none⟩=some (I4 O))/\c.cell? ⟨f,d+k*4,none⟩=some (I4 tk)/\c.cell? ⟨f,d+k*4+1,none⟩=some (U8 J)/\c.cell? ⟨f,d+k*4+2,none⟩=some (U8 K)/\c.cell? ⟨f,d+k*4+3,none⟩=some (I4 P))
       (first|exact o|exact s)
       (first|(fail))
      go_wp2;go_ret;exact ⟨reti (by rw [L.out,<- E.out,A.out]),below_drewN (z.trans (u.mono U)) 1⟩
    ·obtain rfl:k=n:=by omega
     go_wp2;go_ret;exact ⟨reti (by rw [L.out,<- E.out,HF.out,fitL_end (by rw [B.out];exact Nat.le_refl _)]),z.trans (u.mono U)⟩
  ·have L:Hid (hcheckL h xs=2):=by show _=_;unfold hcheckL;rw [if_neg (by omega),if_pos hl]
   obtain ⟨a,cap,rfl⟩:=hs.shape;obtain ⟨n,M⟩:∃ n,Hid (xs.length=n):=⟨_,rfl⟩;obtain ⟨m,HM⟩:∃ m,Hid ((argsL h).length=m):=⟨_,rfl⟩;rw [M.out,HM.out] at hl;rw [M.out];clear hs hc;go_enter Tryz.func89,Tryz.ntmps89
   go_wp2_with (first
    | (go_at_call 88;go_must (refine (rargs_any h _).mono ?_);rintro e D ⟨u2,rfl,l,z⟩;go_must (obtain ⟨a2,c2,rfl⟩:=(qCs l).shape;rw [HM.out];clear l)))
   go_ret;exact ⟨reti L.out.symm,z⟩
 ·have L:Hid (hcheckL h xs=34):=by show _=_;unfold hcheckL;rw [if_pos hc]
  clear hs
  by_cases h0:0<=h
  ·have h1:¬ h<7:=by omega
   clear hc;go_enter Tryz.func89,Tryz.ntmps89;go_wp2;go_ret;exact ⟨reti L.out.symm,by go_grown⟩
  ·clear hc;go_enter Tryz.func89,Tryz.ntmps89;go_wp2;go_ret;exact ⟨reti L.out.symm,by go_grown⟩
end Go.Proofs.YtmdhljoicnommaaGreat
