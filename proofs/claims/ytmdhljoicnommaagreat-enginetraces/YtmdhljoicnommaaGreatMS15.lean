/-
  S6LJoin
  S6LMeet
-/
import Derived.Test.YtmdhljoicnommaaGreatMS13
import Derived.Test.YtmdhljoicnommaaGreatMS11
import Derived.Lib.MinMax
namespace Go.Proofs.YtmdhljoicnommaaGreat
set_option maxHeartbeats 12800000
open Go.RowKit
set_option linter.unusedVariables false
set_option maxRecDepth 20000
def cutS (a:Option Addr) (l h m:Nat):Value:=.slice (if m=l then a else a.map (·.add (l*2))) (h-l) (m-l)
theorem run_fromI (a:Option Addr)(b cap i:Nat)(hi:i<=b)(w:World) :
  (Instr.slice 198 (.slice a b cap) (some (I4 i)) none none).run Tryz.prog w=.ok (cutS a i b cap) w:=by
 have h0:(i:Int)<=(b:Int):=by omega
 simp [Instr.slice,run_underlying Tryz.underlying198,Instr.sliceBounds,run_sliceBound,h0,cutS]
theorem run_fromS (b off a cap:Nat)(h:a+1<=cap):∃ off',(∀ w,(Instr.slice 198 (.slice (some ⟨b,off,none⟩) (a+1) cap) (some (I4 1)) none none).run Tryz.prog w=.ok (.slice (some ⟨b,off',none⟩) a (cap-1)) w)/\(0<a->off'=off+2):=by
 refine ⟨if cap=1 then off else off+2,fun w=>?_,fun h0=>if_neg (by omega)⟩;refine (run_fromI (some ⟨b,off,none⟩) (a+1) cap 1 (by omega) w).trans ?_;unfold cutS
 by_cases hc:cap=1
 ·simp [hc]
 ·simp [hc,Addr.add]
theorem Bx.dr {w:World}{n:Nat}{x y:Int}(h:Bx w n x y):Bx w.drew n x y:=h
theorem ljoin_some (g off cap:Nat)(ss:List (Int×Int))(w:World)(z:0<ss.length)(O:ss.length<=cap)(hm:cap<=9223372036854775807)(B:g<w.heap.size)(I:∀ k,k<ss.length->AtS w g (off+k*2) (ss.getD k (0,0))) :
  Cl 130 #[.slice (some ⟨g,off,none⟩) ss.length cap] w fun e w'=>e=.returned (optV (if joinB ss=true then some (joinL ss) else none))/\Bw w w':=by
 have E:Hid (∀ k,k<ss.length->AtS w g (off+k*2) (ss.getD k (0,0))):=I;clear I;obtain ⟨n,l⟩:∃ n,Hid (ss.length=n+1):=⟨ss.length-1,by show _=_;omega⟩;obtain ⟨R,L⟩:∃ R,Hid (R=if joinB ss=true then some (joinL ss) else none):=⟨_,rfl⟩;rw [<- L.out]
 have U:Hid (joinB ss=ss.all okS):=by
  show _=_
  unfold joinB
  cases ss with
  | nil=>simp at z
  | cons s r=>rfl
 have o:Hid (∀ b,Bw w b->SeesS b (.slice (some ⟨g,off,none⟩) (n+1) cap) ss):=fun b h1=>by
  have h:SeesS w (.slice (some ⟨g,off,none⟩) (n+1) cap) ss:=⟨_,cap,by rw [l.out],O,by unfold maxLen;omega,fun h=>by simp at h,fun _=>⟨g,off,rfl,B,E.out⟩⟩;exact h.below h1
 rw [l.out] at O z ⊢
 have a0:(((n:Int)+1)==0)=false:=by
  have:(n:Int)+1≠0:=by omega
  simpa using this
 have J:Hid (ss≠[]):=fun h=>by have:=l.out;rw [h] at this;simp at this
 cases hall:ss.all okS
 ·have Q:Hid (R=none):=by show _=_;rw [L.out,U.out,hall];rfl
  clear E;go_enter Tryz.func130,Tryz.ntmps130
  go_wp2_with (go_at_call 150;go_must (refine (lallRight_any _ ss _ (o.out _ ((Below.refl _ _).alloc (Nat.le_refl _) _)) J.out).mono ?_);rintro e b ⟨rfl,d⟩;go_must (rw [hall];have f:Bx b w.heap.size 0 0:=Bx.below ⟨⟨by go_cell,by go_cell⟩,by go_simp,by go_simp⟩ d (by simp);obtain ⟨⟨M,N⟩,f0,f1⟩:=f;have u:Hid _:=qAk (x:=U8 0) (y:=U8 0) M N;have a:Bw w b:=qAz d;clear d))
  refine bodyPost_ret (v:=optV none) ?_ rfl ⟨by rw [Q.out],qAa (qAa a (by omega)) (by omega)⟩;rw [results_cell_tmp rfl]
  simp [asAddr,Result.andThen]
  rw [qAc u.out.1 u.out.2]
  rfl
 ·have Q:Hid (R=some (loF ss,hiF ss)):=by show _=_;rw [L.out];unfold joinL;rw [U.out,hall];rfl
  obtain ⟨A,hcut,P⟩:=run_fromS g off n cap O;have P:Hid (0<n->A=off+2):=P;obtain ⟨y0,Y0,K⟩:∃ y Y,Hid (ss.getD 0 (0,0)=(y,Y)):=⟨_,_,rfl⟩;go_enter Tryz.func130,Tryz.ntmps130
  go_wp2_with (go_at_call 150;go_must (refine (lallRight_any _ ss _ (o.out _ ((Below.refl _ _).alloc (Nat.le_refl _) _)) J.out).mono ?_);rintro e b ⟨rfl,d⟩;go_must (rw [hall];have f:Hid (Bx b w.heap.size 0 0):=Bx.below ⟨⟨by go_cell,by go_cell⟩,by go_simp,by go_simp⟩ d (by simp);have a:Bw w b:=qAz d;have hz:w.heap.size<b.heap.size:=Nat.lt_of_lt_of_le (by simp) d.size;have c:=(E.out 0 (by have:=l.out;omega)).below a B;rw [K.out] at c;obtain ⟨e0,F⟩:=c;simp only [Nat.zero_mul,Nat.add_zero] at e0 F;clear d))
  go_loopw [22] (fun i wr=>∃ (k:Nat) (x X:Int),k<=n/\i=I4 k/\Hid (x=loF (ss.take (k+1))/\X=hiF (ss.take (k+1)))/\Bx wr w.heap.size 0 0/\Bx wr b.heap.size x X/\Bw w wr/\b.heap.size<wr.heap.size) (fun i _=>n-(intOf i).toNat)
  case atStart=>exact ⟨0,y0,Y0,by omega,rfl,by have h:=ends_one (ss:=ss) (by have:=l.out;omega);rw [K.out] at h;exact ⟨h.1.symm,h.2.1.symm⟩,f.out.al hz,⟨⟨by go_cell,by go_cell⟩,by go_simp,by go_simp⟩,a.alloc (by omega) _,by simp⟩
  case round =>
   clear f a e0 F;obtain ⟨k,x,X,hk,rfl,G,f,D,a,m1⟩:=hrel
   have m0:w.heap.size<wr.heap.size:=by omega
   have mb:g<wr.heap.size:=by omega
   obtain ⟨⟨M,N⟩,f0,f1⟩:=id f;obtain ⟨⟨d0,d1⟩,g0,g1⟩:=id D;have T:Hid (Bx wr w.heap.size 0 0):=f;have V:Hid (Bx wr b.heap.size x X):=D;have hsz:=a.size;clear f D
   by_cases hlt:k<n
   ·obtain ⟨y,Y,S⟩:∃ y Y,Hid (ss.getD (k+1) (0,0)=(y,Y)):=⟨_,_,rfl⟩;obtain rfl:A=off+2:=P.out (by omega);have c:=(E.out (k+1) (by have:=l.out;omega)).below a B;rw [S.out,show off+(k+1)*2=off+2+k*2 by omega] at c;obtain ⟨e0,F⟩:=c;simp only at e0 F
    have Z:Hid (loF (ss.take (k+1+1))=min (loF (ss.take (k+1))) y/\hiF (ss.take (k+1+1))=max (hiF (ss.take (k+1))) Y):=by
     have h:=loF_step (ss:=ss) (k:=k+1) (by have:=l.out;omega) (by omega);rw [S.out] at h;exact ⟨h.1,h.2.1⟩
    go_wp2;go_region;go_wp2
    go_roundw
    case rel=>exact ⟨k+1,min x y,max X Y,by omega,by go_num,⟨by rw [Z.out.1,<- G.out.1],by rw [Z.out.2,<- G.out.2]⟩,Bx.dr (Bx.al ((T.out.far (m:=b.heap.size) (by omega)).far (m:=b.heap.size) (by omega)) (by simp only [qBm];omega)),Bx.dr (Bx.al (V.out.set (min x y) (max X Y)) (by simp only [qBm];omega)),below_dr ((qAa (qAa a (by omega)) (by omega)).alloc (by simp only [qBm];omega) _),by simp [World.setCell];omega⟩
    case measure=>simp [intOf];omega
   ·obtain rfl:k=n:=by omega
    have HX:Hid (R=some (x,X)):=by
     show _=_
     rw [Q.out,G.out.1,G.out.2,<- l.out,List.take_length]
    have u:Hid _:=qAk (x:=U8 x) (y:=U8 X) M N;go_wp2;refine bodyPost_ret (v:=optV (some (x,X))) ?_ rfl ⟨by rw [HX.out],qAa (qAa a (by omega)) (by omega)⟩;rw [results_cell_tmp rfl]
    simp [asAddr,Result.andThen]
    rw [qAc u.out.1 u.out.2]
    rfl
theorem ljoin_none (a:Option Addr)(cap:Nat)(w:World):Cl 130 #[.slice a 0 cap] w fun e b=>e=.returned (optV none)/\Bw w b:=by
 go_enter Tryz.func130,Tryz.ntmps130;go_wp2;refine bodyPost_ret (v:=optV none) ?_ rfl ⟨rfl,by go_grown⟩;rw [results_cell_tmp rfl]
 simp [asAddr,Result.andThen]
 rw [qAc (a:=0) (A:=0)]
 ·rfl
 all_goals go_cell
theorem ljoin_any (v:Value)(ss:List (Int×Int))(w:World)(i:SeesS w v ss)(l:∀ s∈ss,wfS s) :
  Cl 130 #[v] w fun e k=>e=.returned (optV (if joinB ss=true then some (joinL ss) else none))/\Bw w k:=by
 obtain ⟨a,cap,rfl,d,hm,n,g⟩:=i
 by_cases hne:ss=[]
 ·subst hne;exact ljoin_none a cap w
 ·obtain ⟨b,off,rfl,f,c⟩:=g hne;exact ljoin_some b off cap ss w (List.length_pos_iff.2 hne) d (by unfold maxLen at hm;omega) f c
theorem meet_cross {ss:List (Int×Int)}(b:ss≠[]):meetB ss=decide (loM ss<=hiM ss):=by
 unfold meetB
 by_cases h:loM ss<=hiM ss
 ·have f:joinB ss=true:=by
   unfold joinB
   have d:ss.isEmpty=false:=by cases ss with
    | nil=>exact absurd rfl b
    | cons s r=>rfl
   have c:ss.all okS=true:=by
    rw [List.all_eq_true];intro s a;have i:s.1<=loM ss:=le_maxF (List.mem_map_of_mem a);have g:hiM ss<=s.2:=minF_le (List.mem_map_of_mem a);exact decide_eq_true (by omega)
   rw [d,c];rfl
  rw [f,Bool.true_and]
 ·rw [decide_eq_false h,Bool.and_false]
theorem lmeet_any (v:Value)(ss:List (Int×Int))(w:World)(hs:SeesS w v ss)(J:∀ s∈ss,wfS s) :
  Cl 164 #[v] w fun e O=>e=.returned (optV (if meetB ss=true then some (meetL ss) else none))/\Bw w O:=by
 obtain ⟨a,cap,rfl,hc,hm,-,g⟩:=hs;unfold maxLen at hm;have Z:Hid (ss≠[]->∃ b off,a=some ⟨b,off,none⟩/\b<w.heap.size/\∀ k,k<ss.length->AtS w b (off+k*2) (ss.getD k (0,0))):=g;have HW:Hid (∀ s∈ss,wfS s):=J;clear g J;obtain ⟨n,f⟩:∃ n,Hid (n=ss.length):=⟨_,rfl⟩;rw [<- f.out] at hc ⊢;obtain ⟨R,F⟩:∃ R,Hid (R=if meetB ss=true then some (meetL ss) else none):=⟨_,rfl⟩;rw [<- F.out];go_enter Tryz.func164,Tryz.ntmps164
 go_wp2_with (go_at_call 133;go_must (refine (qBw _).mono ?_);rintro e o ⟨rfl,z⟩;go_must (have d:Hid (Bx o w.heap.size 0 0):=Bx.below ⟨⟨by go_cell,by go_cell⟩,by go_simp,by go_simp⟩ z (by simp);have c:Bw w o:=qAz z;have hz:w.heap.size<o.heap.size:=Nat.lt_of_lt_of_le (by simp) z.size;clear z))
 go_loopw [10] (fun i wr=>∃ (k:Nat) (x X:Int),k<=n/\i=I4 k/\Hid ((k=0->x=0/\X=18446744073709551615)/\(k≠0->x=loM (ss.take k)/\X=hiM (ss.take k)))/\Bx wr w.heap.size 0 0/\Bx wr o.heap.size x X/\Bw w wr/\o.heap.size<wr.heap.size) (fun i _=>n-(intOf i).toNat)
 case atStart=>exact ⟨0,0,18446744073709551615,by omega,rfl,⟨fun _=>⟨rfl,rfl⟩,fun h=>absurd rfl h⟩,d.out.al hz,⟨⟨by go_cell,by go_cell⟩,by go_simp,by go_simp⟩,c.alloc (by omega) _,by simp⟩
 case round =>
  clear d c;obtain ⟨k,x,X,hk,rfl,P,d,E,c,m1⟩:=hrel
  have m0:w.heap.size<wr.heap.size:=by omega
  obtain ⟨⟨K,L⟩,f0,f1⟩:=id d;obtain ⟨⟨d0,d1⟩,g0,g1⟩:=id E;have U:Hid (Bx wr w.heap.size 0 0):=d;have V:Hid (Bx wr o.heap.size x X):=E;have hsz:=c.size;clear d E
  by_cases hlt:k<n
  ·obtain ⟨bk,off,rfl,T,g⟩:=Z.out (fun h=>by have:=f.out;rw [h] at this;simp at this;omega)
   have mb:bk<wr.heap.size:=by omega
   obtain ⟨y,Y,M⟩:∃ y Y,Hid (ss.getD k (0,0)=(y,Y)):=⟨_,_,rfl⟩;have B:=(g k (by have:=f.out;omega)).below c T;clear g;rw [M.out] at B;obtain ⟨e0,e1⟩:=B;simp only at e0 e1
   have HL:Hid (max x y=loM (ss.take (k+1))/\min X Y=hiM (ss.take (k+1))):=by
    by_cases hk0:k=0
    ·subst hk0;have h:=ends_one (ss:=ss) (by have:=f.out;omega);obtain ⟨r,u⟩:=P.out.1 rfl
     have S:0<ss.length:=by have:=f.out;omega
     have hg:ss.getD 0 (0,0)∈ss:=by
      have e:ss.getD 0 (0,0)=ss[0]:=by simp [S]
      rw [e];exact List.getElem_mem S
     have N:=HW.out _ hg;rw [M.out] at h N;unfold wfS W64 at N
     show _/\_
     rw [Nat.zero_add,h.2.2.1,h.2.2.2,r,u];simp only at N ⊢
     omega
    ·have h:=loF_step (ss:=ss) (k:=k) (by have:=f.out;omega) hk0;rw [M.out] at h;obtain ⟨r,u⟩:=P.out.2 hk0;exact ⟨by rw [h.2.2.1,r],by rw [h.2.2.2,u]⟩
   go_wp2;go_region;go_wp2
   go_roundw
   case rel=>exact ⟨k+1,max x y,min X Y,by omega,by go_num,⟨fun h=>absurd h (by omega),fun _=>HL.out⟩,Bx.dr (Bx.al ((U.out.far (m:=o.heap.size) (by omega)).far (m:=o.heap.size) (by omega)) (by simp only [qBm];omega)),Bx.dr (Bx.al (V.out.set (max x y) (min X Y)) (by simp only [qBm];omega)),below_dr ((qAa (qAa c (by omega)) (by omega)).alloc (by simp only [qBm];omega) _),by simp [World.setCell];omega⟩
   case measure=>simp [intOf];omega
  ·obtain rfl:k=n:=by omega
   by_cases hz0:k=0
   ·subst hz0
    have D:Hid (R=none):=by
     have:ss=[]:=List.eq_nil_of_length_eq_zero f.out.symm
     show _=_
     rw [F.out,this]
     rfl
    have l:Hid _:=qAk (x:=U8 0) (y:=U8 0) K L;go_wp2;refine bodyPost_ret (v:=optV none) ?_ rfl ⟨by rw [D.out],qAa (qAa c (by omega)) (by omega)⟩;rw [results_cell_tmp rfl]
    simp [asAddr,Result.andThen]
    rw [qAc l.out.1 l.out.2]
    rfl
   ·have a0:((k:Int)==0)=false:=by simpa using hz0
    have Q:Hid (ss≠[]):=fun h=>by have:=f.out;rw [h] at this;simp at this;omega
    have G:Hid (meetB ss=decide (x<=X)/\x=loM ss/\X=hiM ss):=by
     obtain ⟨r,u⟩:=P.out.2 hz0;rw [show ss.take k=ss by rw [f.out];exact List.take_length] at r u;refine ⟨?_,r,u⟩;rw [meet_cross Q.out,r,u]
    cases hr:decide (x<=X)
    ·have D:Hid (R=none):=by
      show _=_
      rw [F.out,G.out.1,hr]
      rfl
     have l:Hid _:=qAk (x:=U8 0) (y:=U8 0) K L
     go_wp2_with (go_at_call 151;go_must (refine (lright_any x X _).mono ?_);rintro e O ⟨rfl,rfl⟩)
     refine bodyPost_ret (v:=optV none) ?_ rfl ⟨by rw [D.out],(qAa (qAa c (by omega)) (by omega)).alloc (by simp [World.setCell];omega) _⟩;rw [results_cell_tmp rfl]
     simp [asAddr,Result.andThen]
     rw [qAc (a:=0) (A:=0)]
     ·rfl
     ·refine (World.cell?_alloc_past _ _ _ ?_).trans l.out.1;simp [World.setCell];omega
     ·refine (World.cell?_alloc_past _ _ _ ?_).trans l.out.2;simp [World.setCell];omega
    ·have D:Hid (R=some (x,X)):=by
      show _=_
      have I:meetB ss=true:=by rw [G.out.1,hr]
      rw [F.out,if_pos I];unfold meetL;rw [if_pos I,<- G.out.2.1,<- G.out.2.2]
     have l:Hid _:=qAk (x:=U8 x) (y:=U8 X) K L
     go_wp2_with (go_at_call 151;go_must (refine (lright_any x X _).mono ?_);rintro e O ⟨rfl,rfl⟩)
     refine bodyPost_ret (v:=optV (some (x,X))) ?_ rfl ⟨by rw [D.out],(qAa (qAa c (by omega)) (by omega)).alloc (by simp [World.setCell];omega) _⟩;rw [results_cell_tmp rfl]
     simp [asAddr,Result.andThen]
     rw [qAc (a:=x) (A:=X)]
     ·rfl
     ·refine (World.cell?_alloc_past _ _ _ ?_).trans l.out.1;simp [World.setCell];omega
     ·refine (World.cell?_alloc_past _ _ _ ?_).trans l.out.2;simp [World.setCell];omega
end Go.Proofs.YtmdhljoicnommaaGreat
