/-
  S6LJoin
  S6LMeet
-/
import Derived.Test.YtmdhljoicnommaaGreatME13
import Derived.Test.YtmdhljoicnommaaGreatME11
import Derived.Lib.MinMax
namespace Go.Proofs.YtmdhljoicnommaaGreat
set_option maxHeartbeats 12800000
open Go.RowKit
set_option linter.unusedVariables false
set_option maxRecDepth 20000
def yTx (a:Option Addr) (l h m:Nat):Value:=.slice (if m=l then a else a.map (·.add (l*2))) (h-l) (m-l)
theorem yOv (a:Option Addr)(b cap i:Nat)(hi:i<=b)(w:World) :
  (Instr.slice 198 (.slice a b cap) (some (I4 i)) none none).run Tryz.prog w=.ok (yTx a i b cap) w:=by
 have h0:(i:Int)<=(b:Int):=by omega
 simp [Instr.slice,run_underlying Tryz.underlying198,Instr.sliceBounds,run_sliceBound,h0,yTx]
theorem yPc (b off a cap:Nat)(h:a+1<=cap):∃ off',(∀ w,(Instr.slice 198 (.slice (some ⟨b,off,none⟩) (a+1) cap) (some (I4 1)) none none).run Tryz.prog w=.ok (.slice (some ⟨b,off',none⟩) a (cap-1)) w)/\(0<a->off'=off+2):=by
 refine ⟨if cap=1 then off else off+2,fun w=>?_,fun h0=>if_neg (by omega)⟩;refine (yOv (some ⟨b,off,none⟩) (a+1) cap 1 (by omega) w).trans ?_;unfold yTx
 by_cases hc:cap=1
 ·simp [hc]
 ·simp [hc,Addr.add]
theorem Bx.dr {w:World}{n:Nat}{x y:Int}(h:Bx w n x y):Bx w.drew n x y:=h
theorem yJu (g off cap:Nat)(ss:List (Int×Int))(w:World)(z:0<ss.length)(Q:ss.length<=cap)(hm:cap<=9223372036854775807)(u:g<w.heap.size)(J:∀ k,k<ss.length->AtS w g (off+k*2) (ss.getD k (0,0))) :
  Cl 130 #[.slice (some ⟨g,off,none⟩) ss.length cap] w fun e w'=>e=.returned (qBh (if qCj ss=true then some (qDe ss) else none))/\Bw w w':=by
 have F:Hid (∀ k,k<ss.length->AtS w g (off+k*2) (ss.getD k (0,0))):=J;clear J;obtain ⟨n,l⟩:∃ n,Hid (ss.length=n+1):=⟨ss.length-1,by show _=_;omega⟩;obtain ⟨R,N⟩:∃ R,Hid (R=if qCj ss=true then some (qDe ss) else none):=⟨_,rfl⟩;rw [<- N.out]
 have Z:Hid (qCj ss=ss.all okS):=by
  show _=_
  unfold qCj
  cases ss with
  | nil=>simp at z
  | cons s r=>rfl
 have o:Hid (∀ b,Bw w b->SeesS b (.slice (some ⟨g,off,none⟩) (n+1) cap) ss):=fun b h1=>by
  have h:SeesS w (.slice (some ⟨g,off,none⟩) (n+1) cap) ss:=⟨_,cap,by rw [l.out],Q,by unfold maxLen;omega,fun h=>by simp at h,fun _=>⟨g,off,rfl,u,F.out⟩⟩;exact h.below h1
 rw [l.out] at Q z ⊢
 have a0:(((n:Int)+1)==0)=false:=by
  have:(n:Int)+1≠0:=by omega
  simpa using this
 have K:Hid (ss≠[]):=fun h=>by have:=l.out;rw [h] at this;simp at this
 cases hall:ss.all okS
 ·have L:Hid (R=none):=by show _=_;rw [N.out,Z.out,hall];rfl
  clear F;go_enter Tryz.func130,Tryz.ntmps130
  go_wp2_with (go_at_call 150;go_must (refine (qMu _ ss _ (o.out _ ((Below.refl _ _).alloc (Nat.le_refl _) _)) K.out).mono ?_);rintro e b ⟨rfl,d⟩;go_must (rw [hall];have f:Bx b w.heap.size 0 0:=Bx.below ⟨⟨by go_cell,by go_cell⟩,by go_simp,by go_simp⟩ d (by simp);obtain ⟨⟨P,M⟩,f0,f1⟩:=f;have B:Hid _:=qAp (x:=U8 0) (y:=U8 0) P M;have a:Bw w b:=qCf d;clear d))
  refine bodyPost_ret (v:=qBh none) ?_ rfl ⟨by rw [L.out],qAb (qAb a (by omega)) (by omega)⟩;rw [results_cell_tmp rfl]
  simp [asAddr,Result.andThen]
  rw [qAe B.out.1 B.out.2]
  rfl
 ·have L:Hid (R=some (loF ss,hiF ss)):=by show _=_;rw [N.out];unfold qDe;rw [Z.out,hall];rfl
  obtain ⟨D,hcut,O⟩:=yPc g off n cap Q;have O:Hid (0<n->D=off+2):=O;obtain ⟨y0,Y0,I⟩:∃ y Y,Hid (ss.getD 0 (0,0)=(y,Y)):=⟨_,_,rfl⟩;go_enter Tryz.func130,Tryz.ntmps130
  go_wp2_with (go_at_call 150;go_must (refine (qMu _ ss _ (o.out _ ((Below.refl _ _).alloc (Nat.le_refl _) _)) K.out).mono ?_);rintro e b ⟨rfl,d⟩;go_must (rw [hall];have f:Hid (Bx b w.heap.size 0 0):=Bx.below ⟨⟨by go_cell,by go_cell⟩,by go_simp,by go_simp⟩ d (by simp);have a:Bw w b:=qCf d;have hz:w.heap.size<b.heap.size:=Nat.lt_of_lt_of_le (by simp) d.size;have c:=(F.out 0 (by have:=l.out;omega)).below a u;rw [I.out] at c;obtain ⟨e0,G⟩:=c;simp only [Nat.zero_mul,Nat.add_zero] at e0 G;clear d))
  go_loopw [22] (fun i wr=>∃ (k:Nat) (x X:Int),k<=n/\i=I4 k/\Hid (x=loF (ss.take (k+1))/\X=hiF (ss.take (k+1)))/\Bx wr w.heap.size 0 0/\Bx wr b.heap.size x X/\Bw w wr/\b.heap.size<wr.heap.size) (fun i _=>n-(intOf i).toNat)
  case atStart=>exact ⟨0,y0,Y0,by omega,rfl,by have h:=qUi (ss:=ss) (by have:=l.out;omega);rw [I.out] at h;exact ⟨h.1.symm,h.2.1.symm⟩,f.out.al hz,⟨⟨by go_cell,by go_cell⟩,by go_simp,by go_simp⟩,a.alloc (by omega) _,by simp⟩
  case round =>
   clear f a e0 G;obtain ⟨k,x,X,hk,rfl,E,f,A,a,m1⟩:=hrel
   have m0:w.heap.size<wr.heap.size:=by omega
   have mb:g<wr.heap.size:=by omega
   obtain ⟨⟨P,M⟩,f0,f1⟩:=id f;obtain ⟨⟨d0,d1⟩,g0,g1⟩:=id A;have S:Hid (Bx wr w.heap.size 0 0):=f;have V:Hid (Bx wr b.heap.size x X):=A;have hsz:=a.size;clear f A
   by_cases hlt:k<n
   ·obtain ⟨y,Y,T⟩:∃ y Y,Hid (ss.getD (k+1) (0,0)=(y,Y)):=⟨_,_,rfl⟩;obtain rfl:D=off+2:=O.out (by omega);have c:=(F.out (k+1) (by have:=l.out;omega)).below a u;rw [T.out,show off+(k+1)*2=off+2+k*2 by omega] at c;obtain ⟨e0,G⟩:=c;simp only at e0 G
    have U:Hid (loF (ss.take (k+1+1))=min (loF (ss.take (k+1))) y/\hiF (ss.take (k+1+1))=max (hiF (ss.take (k+1))) Y):=by
     have h:=qUo (ss:=ss) (k:=k+1) (by have:=l.out;omega) (by omega);rw [T.out] at h;exact ⟨h.1,h.2.1⟩
    go_wp2;go_region;go_wp2
    go_roundw
    case rel=>exact ⟨k+1,min x y,max X Y,by omega,by go_num,⟨by rw [U.out.1,<- E.out.1],by rw [U.out.2,<- E.out.2]⟩,Bx.dr (Bx.al ((S.out.far (m:=b.heap.size) (by omega)).far (m:=b.heap.size) (by omega)) (by simp only [qDj];omega)),Bx.dr (Bx.al (V.out.set (min x y) (max X Y)) (by simp only [qDj];omega)),qHd ((qAb (qAb a (by omega)) (by omega)).alloc (by simp only [qDj];omega) _),by simp [World.setCell];omega⟩
    case measure=>simp [intOf];omega
   ·obtain rfl:k=n:=by omega
    have HX:Hid (R=some (x,X)):=by
     show _=_
     rw [L.out,E.out.1,E.out.2,<- l.out,List.take_length]
    have B:Hid _:=qAp (x:=U8 x) (y:=U8 X) P M;go_wp2;refine bodyPost_ret (v:=qBh (some (x,X))) ?_ rfl ⟨by rw [HX.out],qAb (qAb a (by omega)) (by omega)⟩;rw [results_cell_tmp rfl]
    simp [asAddr,Result.andThen]
    rw [qAe B.out.1 B.out.2]
    rfl
theorem yIl (a:Option Addr)(cap:Nat)(w:World):Cl 130 #[.slice a 0 cap] w fun e b=>e=.returned (qBh none)/\Bw w b:=by
 go_enter Tryz.func130,Tryz.ntmps130;go_wp2;refine bodyPost_ret (v:=qBh none) ?_ rfl ⟨rfl,by go_grown⟩;rw [results_cell_tmp rfl]
 simp [asAddr,Result.andThen]
 rw [qAe (a:=0) (A:=0)]
 ·rfl
 all_goals go_cell
theorem yQv (v:Value)(ss:List (Int×Int))(w:World)(f:SeesS w v ss)(l:∀ s∈ss,wfS s) :
  Cl 130 #[v] w fun e g=>e=.returned (qBh (if qCj ss=true then some (qDe ss) else none))/\Bw w g:=by
 obtain ⟨a,cap,rfl,k,hm,n,i⟩:=f
 by_cases hne:ss=[]
 ·subst hne;exact yIl a cap w
 ·obtain ⟨b,off,rfl,d,c⟩:=i hne;exact yJu b off cap ss w (List.length_pos_iff.2 hne) k (by unfold maxLen at hm;omega) d c
theorem qVx {ss:List (Int×Int)}(a:ss≠[]):qOq ss=decide (loM ss<=hiM ss):=by
 unfold qOq
 by_cases h:loM ss<=hiM ss
 ·have d:qCj ss=true:=by
   unfold qCj
   have c:ss.isEmpty=false:=by cases ss with
    | nil=>exact absurd rfl a
    | cons s r=>rfl
   have f:ss.all okS=true:=by
    rw [List.all_eq_true];intro s b;have i:s.1<=loM ss:=yGb (List.mem_map_of_mem b);have g:hiM ss<=s.2:=yGd (List.mem_map_of_mem b);exact decide_eq_true (by omega)
   rw [c,f];rfl
  rw [d,Bool.true_and]
 ·rw [decide_eq_false h,Bool.and_false]
theorem yNh (v:Value)(ss:List (Int×Int))(w:World)(Z:SeesS w v ss)(J:∀ s∈ss,wfS s) :
  Cl 164 #[v] w fun e O=>e=.returned (qBh (if qOq ss=true then some (qSu ss) else none))/\Bw w O:=by
 obtain ⟨a,cap,rfl,hc,hm,-,l⟩:=Z;unfold maxLen at hm;have HA:Hid (ss≠[]->∃ b off,a=some ⟨b,off,none⟩/\b<w.heap.size/\∀ k,k<ss.length->AtS w b (off+k*2) (ss.getD k (0,0))):=l;have HW:Hid (∀ s∈ss,wfS s):=J;clear l J;obtain ⟨n,f⟩:∃ n,Hid (n=ss.length):=⟨_,rfl⟩;rw [<- f.out] at hc ⊢;obtain ⟨R,F⟩:∃ R,Hid (R=if qOq ss=true then some (qSu ss) else none):=⟨_,rfl⟩;rw [<- F.out];go_enter Tryz.func164,Tryz.ntmps164
 go_wp2_with (go_at_call 133;go_must (refine (qDy _).mono ?_);rintro e g ⟨rfl,B⟩;go_must (have d:Hid (Bx g w.heap.size 0 0):=Bx.below ⟨⟨by go_cell,by go_cell⟩,by go_simp,by go_simp⟩ B (by simp);have c:Bw w g:=qCf B;have hz:w.heap.size<g.heap.size:=Nat.lt_of_lt_of_le (by simp) B.size;clear B))
 go_loopw [10] (fun i wr=>∃ (k:Nat) (x X:Int),k<=n/\i=I4 k/\Hid ((k=0->x=0/\X=18446744073709551615)/\(k≠0->x=loM (ss.take k)/\X=hiM (ss.take k)))/\Bx wr w.heap.size 0 0/\Bx wr g.heap.size x X/\Bw w wr/\g.heap.size<wr.heap.size) (fun i _=>n-(intOf i).toNat)
 case atStart=>exact ⟨0,0,18446744073709551615,by omega,rfl,⟨fun _=>⟨rfl,rfl⟩,fun h=>absurd rfl h⟩,d.out.al hz,⟨⟨by go_cell,by go_cell⟩,by go_simp,by go_simp⟩,c.alloc (by omega) _,by simp⟩
 case round =>
  clear d c;obtain ⟨k,x,X,hk,rfl,M,d,E,c,m1⟩:=hrel
  have m0:w.heap.size<wr.heap.size:=by omega
  obtain ⟨⟨N,L⟩,f0,f1⟩:=id d;obtain ⟨⟨d0,d1⟩,g0,g1⟩:=id E;have Q:Hid (Bx wr w.heap.size 0 0):=d;have T:Hid (Bx wr g.heap.size x X):=E;have hsz:=c.size;clear d E
  by_cases hlt:k<n
  ·obtain ⟨bk,off,rfl,S,l⟩:=HA.out (fun h=>by have:=f.out;rw [h] at this;simp at this;omega)
   have mb:bk<wr.heap.size:=by omega
   obtain ⟨y,Y,K⟩:∃ y Y,Hid (ss.getD k (0,0)=(y,Y)):=⟨_,_,rfl⟩;have z:=(l k (by have:=f.out;omega)).below c S;clear l;rw [K.out] at z;obtain ⟨e0,e1⟩:=z;simp only at e0 e1
   have HL:Hid (max x y=loM (ss.take (k+1))/\min X Y=hiM (ss.take (k+1))):=by
    by_cases hk0:k=0
    ·subst hk0;have h:=qUi (ss:=ss) (by have:=f.out;omega);obtain ⟨r,u⟩:=M.out.1 rfl
     have U:0<ss.length:=by have:=f.out;omega
     have hg:ss.getD 0 (0,0)∈ss:=by
      have e:ss.getD 0 (0,0)=ss[0]:=by simp [U]
      rw [e];exact List.getElem_mem U
     have P:=HW.out _ hg;rw [K.out] at h P;unfold wfS W64 at P
     show _/\_
     rw [Nat.zero_add,h.2.2.1,h.2.2.2,r,u];simp only at P ⊢
     omega
    ·have h:=qUo (ss:=ss) (k:=k) (by have:=f.out;omega) hk0;rw [K.out] at h;obtain ⟨r,u⟩:=M.out.2 hk0;exact ⟨by rw [h.2.2.1,r],by rw [h.2.2.2,u]⟩
   go_wp2;go_region;go_wp2
   go_roundw
   case rel=>exact ⟨k+1,max x y,min X Y,by omega,by go_num,⟨fun h=>absurd h (by omega),fun _=>HL.out⟩,Bx.dr (Bx.al ((Q.out.far (m:=g.heap.size) (by omega)).far (m:=g.heap.size) (by omega)) (by simp only [qDj];omega)),Bx.dr (Bx.al (T.out.set (max x y) (min X Y)) (by simp only [qDj];omega)),qHd ((qAb (qAb c (by omega)) (by omega)).alloc (by simp only [qDj];omega) _),by simp [World.setCell];omega⟩
   case measure=>simp [intOf];omega
  ·obtain rfl:k=n:=by omega
   by_cases hz0:k=0
   ·subst hz0
    have D:Hid (R=none):=by
     have:ss=[]:=List.eq_nil_of_length_eq_zero f.out.symm
     show _=_
     rw [F.out,this]
     rfl
    have o:Hid _:=qAp (x:=U8 0) (y:=U8 0) N L;go_wp2;refine bodyPost_ret (v:=qBh none) ?_ rfl ⟨by rw [D.out],qAb (qAb c (by omega)) (by omega)⟩;rw [results_cell_tmp rfl]
    simp [asAddr,Result.andThen]
    rw [qAe o.out.1 o.out.2]
    rfl
   ·have a0:((k:Int)==0)=false:=by simpa using hz0
    have V:Hid (ss≠[]):=fun h=>by have:=f.out;rw [h] at this;simp at this;omega
    have G:Hid (qOq ss=decide (x<=X)/\x=loM ss/\X=hiM ss):=by
     obtain ⟨r,u⟩:=M.out.2 hz0;rw [show ss.take k=ss by rw [f.out];exact List.take_length] at r u;refine ⟨?_,r,u⟩;rw [qVx V.out,r,u]
    cases hr:decide (x<=X)
    ·have D:Hid (R=none):=by
      show _=_
      rw [F.out,G.out.1,hr]
      rfl
     have o:Hid _:=qAp (x:=U8 0) (y:=U8 0) N L
     go_wp2_with (go_at_call 151;go_must (refine (qLa x X _).mono ?_);rintro e O ⟨rfl,rfl⟩)
     refine bodyPost_ret (v:=qBh none) ?_ rfl ⟨by rw [D.out],(qAb (qAb c (by omega)) (by omega)).alloc (by simp [World.setCell];omega) _⟩;rw [results_cell_tmp rfl]
     simp [asAddr,Result.andThen]
     rw [qAe (a:=0) (A:=0)]
     ·rfl
     ·refine (World.cell?_alloc_past _ _ _ ?_).trans o.out.1;simp [World.setCell];omega
     ·refine (World.cell?_alloc_past _ _ _ ?_).trans o.out.2;simp [World.setCell];omega
    ·have D:Hid (R=some (x,X)):=by
      show _=_
      have I:qOq ss=true:=by rw [G.out.1,hr]
      rw [F.out,if_pos I];unfold qSu;rw [if_pos I,<- G.out.2.1,<- G.out.2.2]
     have o:Hid _:=qAp (x:=U8 x) (y:=U8 X) N L
     go_wp2_with (go_at_call 151;go_must (refine (qLa x X _).mono ?_);rintro e O ⟨rfl,rfl⟩)
     refine bodyPost_ret (v:=qBh (some (x,X))) ?_ rfl ⟨by rw [D.out],(qAb (qAb c (by omega)) (by omega)).alloc (by simp [World.setCell];omega) _⟩;rw [results_cell_tmp rfl]
     simp [asAddr,Result.andThen]
     rw [qAe (a:=x) (A:=X)]
     ·rfl
     ·refine (World.cell?_alloc_past _ _ _ ?_).trans o.out.1;simp [World.setCell];omega
     ·refine (World.cell?_alloc_past _ _ _ ?_).trans o.out.2;simp [World.setCell];omega
end Go.Proofs.YtmdhljoicnommaaGreat
