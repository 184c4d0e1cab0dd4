/-
  RComes
  RComesA
  RAtA
-/
import Derived.Test.YtmdhljoicnommaaGreatME44
import Derived.Test.YtmdhljoicnommaaGreatME22
import Derived.Test.YtmdhljoicnommaaGreatME33
import Derived.Deep.CutRange
namespace Go.Proofs.YtmdhljoicnommaaGreat
set_option maxHeartbeats 12800000
open Go.RowKit
set_option linter.unusedVariables false
set_option linter.unusedSimpArgs false
set_option maxRecDepth 100000
theorem Ss.at {B:Nat}{w:World}{g c:Nat}{S:List St}(h:Ss B w (.slice (some ⟨g,0,none⟩) S.length c) S){i:Nat}(hi:i<S.length):∃ a d,w.cell? ⟨g,i,none⟩=some (.slice a (S.getD i []).length d)/\SeesT w (.slice a (S.getD i []).length d) (S.getD i [])/\w.ownsRow B 153 4 (.slice a (S.getD i []).length d) (S.getD i []).length (qAo (S.getD i [])):=by
 obtain ⟨o,c',a,d,k,_,_,l,n,f⟩:=h.get hi;injection k with b s r;injection b with b;injection b with b;subst b;exact ⟨a,d,l,n,f⟩
theorem yWs {i:In}{f:Int}{l o:Bool}(n:Hid (f=i.far))(k:Hid (l=i.leads))(c:Hid (o=i.on))(w:World):Cl 38 #[qAl i.op i.d i.a i.b i.imm] w fun e g=>e=.returned (.tuple #[I4 f,.bool l,.bool o])/\Bw w g:=by
 rw [n.out,k.out,c.out];exact yBf i.op i.d i.a i.b i.imm w
theorem yVz {nm:Nat}{s:St}(h:Made8 nm s):∀ t∈s,W64 t.lo/\W64 t.hi:=fun t a=>(h.2 t a).ends
theorem qSd (xs:List In)(K:List St)(p:Nat):∀ n,(qAy xs K p n).length<=2*n+1
 | 0=>by unfold qAy;split<;>simp
 | n+1=>by
  have e:qAy xs K p (n+1)=qAy xs K p n++qHr xs K p n:=by
   unfold qAy;rw [List.range_succ,List.flatMap_append,List.append_assoc]
   simp
  have d:=qSd xs K p n
  have f:(qHr xs K p n).length<=2:=by
   unfold qHr
   split
   ·simp
   ·rw [List.length_append]
    have:∀ (c:Bool) (o:Option St),(if c=true then o.toList else []).length<=1:=fun c o=>by cases c<;>cases o<;>simp
    have b:=this ((nth xs n).leads&&decide ((n:Int)+(nth xs n).far=p)) (qBp (nth xs n) (K.getD n []) true);have a:=this ((nth xs n).on&&decide (n+1=p)) (qBp (nth xs n) (K.getD n []) false)
    omega
  rw [e,List.length_append]
  omega
theorem qOo {vm:Value}{cb co ccap:Nat}{xs:List In}{p:Nat}{vs:Value}{s:St}{nm:Nat}(a:Bool){w:World}{o:Option St}(f:SeesI w (.slice (some ⟨cb,co,none⟩) xs.length ccap) xs)(g:Taken xs)(b:p<xs.length)(c:SeesT w vs s)(hm:Made8 nm s)(d:Hid (qBp (nth xs p) s a=o)) :
  Cl 121 #[.agg #[vm,.slice (some ⟨cb,co,none⟩) xs.length ccap],I4 p,vs,.bool a] w (yXi w o):=by
 rw [<- d.out];exact yJh vm _ vs xs p s a w f b c hm.1 (yVz hm) (qEl b (g.place p b)).1
theorem qNu {w:World}{cb co ccap k:Nat}{xs:List In}(h:SeesI w (.slice (some ⟨cb,co,none⟩) xs.length ccap) xs)(d:k<xs.length):At w cb (co+k*5) (nth xs k)/\cb<w.heap.size/\xs.length<=ccap:=by
 obtain ⟨a,cap,o,r,_,_,c⟩:=h;injection o with g s n;subst g;subst n;obtain ⟨b,off,e,l,f⟩:=c (fun e=>by rw [e] at d;simp at d);injection e with e;injection e with e i;subst e;subst i;exact ⟨f k d,l,r⟩
theorem qVl {i:In}{s a:St}{b:Bool}(c:s.length=8)(h:qBp i s b=some a):a.length=8:=by
 unfold qBp at h
 repeat' split at h
 all_goals first|(injection h with h;subst h;simpa using c)|cases h
def qLp (W:World) (C:List St) (v:Value) (wc:World):Prop:=Ss W.heap.size wc v C/\Below W.heap.size W wc
theorem yRg (vm:Value)(cb co ccap:Nat)(xs:List In)(p:Nat)(g kc:Nat)(K:List St)(nm B:Nat)(w:World)(X:SeesI w (.slice (some ⟨cb,co,none⟩) xs.length ccap) xs)(hk:Ss B w (.slice (some ⟨g,0,none⟩) K.length kc) K)(ad:g<w.heap.size)(hT:Taken xs)(hp:p<xs.length)(be:p<=K.length)(bc:0<p)(ao:∀ s∈K,s=[]∨Made8 nm s) :
  Cl 82 #[.agg #[vm,.slice (some ⟨cb,co,none⟩) xs.length ccap],I4 p,.slice (some ⟨g,0,none⟩) K.length kc] w fun e z=>∃ u,e=.returned u/\Ss w.heap.size z u (qAy xs K p p)/\Bw w z:=by
 obtain ⟨i0,hi,ap,ar,af⟩:=info_parts Tryz.infoSt;have HC:=qAa X;have HK:=qAa hk;have HT:=qAa hT;have av:=qAa ao;have bi:xs.length<=64:=hT.top
 have bh:((p:Int)==0)=false:=by simp;omega
 obtain ⟨W,HW,a4,ba⟩:∃ W,Hid (W=w.alloc (Obj.cells #[vm,.slice (some ⟨cb,co,none⟩) xs.length ccap] 25))/\Hid (Bw w W)/\W.heap.size=w.heap.size+1 :=
  ⟨_,rfl,qAa (by go_grown),by simp⟩
 have HM:Hid (W.cell? ⟨w.heap.size,0,none⟩=some vm/\W.cell? ⟨w.heap.size,1,none⟩=some (.slice (some ⟨cb,co,none⟩) xs.length ccap)):=by
  rw [HW.out];exact ⟨by go_cell,by go_cell⟩
 clear X hk hT ao;go_enter Tryz.func82,Tryz.ntmps82;go_wp2
 go_loopw [7,8] (fun v7 v8 wr=>∃ q:Nat,q<=p/\v8=I4 q/\Hid (qLp W (qAy xs K p q) v7 wr)) (fun _ v8 _=>p-(intOf v8).toNat)
 case atStart =>
  refine ⟨0,Nat.zero_le _,rfl,?_,?_⟩
  ·rw [show qAy xs K p 0=[] by unfold qAy;rw [if_neg (by omega)];rfl];exact Ss.nil _ _
  ·rw [HW.out];exact Below.refl _ _
 case round =>
  rename World=>w0
  obtain ⟨q,hq,rfl,V⟩:=hrel;have b1:=V.out.2.size
  have r:Hid (∀ wx,Bw W wx->wx.cell? ⟨w.heap.size,0,none⟩=some vm/\wx.cell? ⟨w.heap.size,1,none⟩=some (.slice (some ⟨cb,co,none⟩) xs.length ccap)):=fun wx hb =>
   ⟨(hb.cell (p:=⟨w.heap.size,0,none⟩) (show w.heap.size<W.heap.size by omega)).trans HM.out.1,(hb.cell (p:=⟨w.heap.size,1,none⟩) (show w.heap.size<W.heap.size by omega)).trans HM.out.2⟩
  by_cases hlt:q<p
  ·have b2:(q:Int)<p:=by omega
   have Q:q<xs.length:=by omega
   have a9:Bw w w0:=a4.out.trans (V.out.2.mono (by omega));obtain ⟨s,HS⟩:∃ s,Hid (K.getD q []=s):=⟨_,rfl⟩;obtain ⟨N,P,ku,M,_⟩:=HK.out.at (i:=q) (by omega);rw [HS.out] at ku M;rw [<- a9.cell (p:=⟨g,q,none⟩) ad] at ku
   have b7:(q:Int)<K.length:=by omega
   by_cases hs0:s.length=0
   ·have b3:((s.length:Int)==0)=true:=by simp [hs0]
    have HE:Hid (qAy xs K p (q+1)=qAy xs K p q):=by
     show _=_
     rw [show qAy xs K p (q+1)=qAy xs K p q++qHr xs K p q by unfold qAy;rw [List.range_succ,List.flatMap_append,List.append_assoc];simp];unfold qHr;rw [HS.out,if_pos hs0,List.append_nil]
    go_wp2
    go_roundw
    case rel=>exact ⟨q+1,by omega,by go_num,by show qLp _ _ _ _;rw [HE.out];exact V.out⟩
    case measure=>simp [intOf];omega
   ·have ak:Made8 nm s:=by
     have au:K.getD q []∈K:=by
      rw [List.getD_eq_getElem?_getD,List.getElem?_eq_getElem (by omega)];exact List.getElem_mem _
     rcases av.out _ au with h|h
     ·rw [HS.out] at h;rw [h] at hs0;exact absurd rfl hs0
     ·rw [HS.out] at h;exact h
    have h8:=ak.1;rw [h8] at ku M
    have KU:Hid (w.cell? ⟨g,q,none⟩=some (.slice N 8 P)):=by rw [<- a9.cell (p:=⟨g,q,none⟩) ad];exact ku
    have ax:=qAa M;have aj:=qAa (M.below a9);have U:=qAa ak;obtain ⟨an,b8,bd⟩:=qNu (HC.out.below a9) Q;obtain ⟨⟨op,d,a,b,a7⟩,HI⟩:∃ i,Hid (nth xs q=i):=⟨_,rfl⟩;rw [HI.out] at an;obtain ⟨c0,c1,c2,c3,c4⟩:=an;simp only at c0 c1 c2 c3 c4;obtain ⟨f,HF⟩:∃ f,Hid (f=In.far ⟨op,d,a,b,a7⟩):=⟨_,rfl⟩;obtain ⟨l,HL⟩:∃ l,Hid (l=In.leads ⟨op,d,a,b,a7⟩):=⟨_,rfl⟩;obtain ⟨o,HO⟩:∃ o,Hid (o=In.on ⟨op,d,a,b,a7⟩):=⟨_,rfl⟩
    have aw : -64<=f/\f<=64:=by
     rw [HF.out];have ay:=qEl Q (HT.out.place q Q);rw [HI.out] at ay
     omega
    obtain ⟨b5,b4⟩:=aw;obtain ⟨A,HA⟩:∃ A,Hid (A=(l&&decide ((q:Int)+f=p))):=⟨_,rfl⟩;obtain ⟨D,HD⟩:∃ D,Hid (D=(o&&decide (q+1=p))):=⟨_,rfl⟩;obtain ⟨o1,a2⟩:∃ o1,Hid (qBp (nth xs q) s true=o1):=⟨_,rfl⟩;obtain ⟨o2,a5⟩:∃ o2,Hid (qBp (nth xs q) s false=o2):=⟨_,rfl⟩
    have HE:Hid (qAy xs K p (q+1)=qAy xs K p q++(if A=true then o1.toList else [])++(if D=true then o2.toList else [])):=by
     show _=_
     rw [show qAy xs K p (q+1)=qAy xs K p q++qHr xs K p q by unfold qAy;rw [List.range_succ,List.flatMap_append,List.append_assoc];simp];unfold qHr;rw [HS.out,if_neg hs0,a2.out,a5.out,HA.out,HD.out,HL.out,HO.out,HF.out,HI.out,List.append_assoc]
    have b9:(q:Int)<xs.length:=by omega
    have Y:Hid ((qAy xs K p q).length+(if A=true then o1.toList else []).length<=200):=by
     have h1:=qSd xs K p (q+1);rw [HE.out,List.length_append,List.length_append] at h1
     show _<=_
     omega
    have b6:(xs.length:Int)<=64:=by omega
    obtain ⟨m0,m1⟩:=r.out w0 V.out.2
    go_upto_region 9 with (go_at_call 38;go_must (refine (yWs (i:=⟨op,d,a,b,a7⟩) HF HL HO _).mono ?_);rintro e w1 ⟨rfl,T⟩;go_must (have bb:=T.size;have Z:Hid (qLp W (qAy xs K p q) u7 w1):=⟨V.out.1.below T (Nat.le_refl _),V.out.2.trans (T.mono b1)⟩))
    go_cut [50] from 22 to 87 (fun v50 wc=>v50=.bool A/\wc=w1)
    case first =>
     cases l with
     | false =>
      go_wp2
      go_meet
      case rel=>exact ⟨by rw [HA.out];rfl,rfl⟩
     | true =>
      by_cases X:(q:Int)+f=p
      ·go_wp2
       go_meet
       case rel=>exact ⟨by rw [HA.out];simp [X],rfl⟩
      ·have am:((q:Int)+f==p)=false:=by simpa using X
       go_wp2
       go_meet
       case rel=>exact ⟨by rw [HA.out];simp [X],rfl⟩
    case rest =>
     obtain ⟨rfl,rfl⟩:=hcut;clear V;have G:=Z.out.2;have az:=G.size;have aa:Bw w wc:=a4.out.trans (G.mono (by omega));have a0:Hid (wc.cell? ⟨w.heap.size,0,none⟩=some vm/\wc.cell? ⟨w.heap.size,1,none⟩=some (.slice (some ⟨cb,co,none⟩) xs.length ccap)/\wc.cell? ⟨g,q,none⟩=some (.slice N 8 P)):=⟨(r.out wc G).1,(r.out wc G).2,(T.cell (p:=⟨g,q,none⟩) (show g<w0.heap.size by omega)).trans ku⟩;have ai:=qAa (aj.out.below T);have ah:=qAa (HC.out.below aa);clear m0 m1 c0 c1 c2 c3 c4 ku
     go_upto_if 50 with fail
     -- WAYS
     go_cut [7,12,13] from 22 to 87 (fun v7 v12 v13 wd=>Hid (qLp W (qAy xs K p q++(if A=true then o1.toList else [])) v7 wd)/\(Hid (wd=wd∨True)))
     case first =>
      cases A with
      | false =>
       go_wp2
       go_meet
       case rel=>exact ⟨by show qLp _ _ _ _;simpa using Z.out,Or.inr trivial⟩
      | true =>
       go_wp2_with fail
       cases o1 with
       | none =>
        go_region_held3 (fun z=>z.cell? ⟨w.heap.size,0,none⟩=some vm/\z.cell? ⟨w.heap.size,1,none⟩=some (.slice (some ⟨cb,co,none⟩) xs.length ccap)/\z.cell? ⟨g,q,none⟩=some (.slice N 8 P))
         (first|with_reducible exact O|exact a0.out)
         (first|(go_at_call 121;go_must (refine (qOo (nm:=nm) true (w:=wc.drew) ah.out HT.out Q ai.out U.out a2).mono ?_);rintro e E ⟨k,rfl⟩;go_must (have n:Bw wc E:=qAg k;have c:Bw W E:=G.trans (n.mono G.size);have O:=(⟨(r.out E c).1,(r.out E c).2,(n.cell (p:=⟨g,q,none⟩) (show g<wc.heap.size by omega)).trans a0.out.2.2⟩:E.cell? ⟨w.heap.size,0,none⟩=some vm/\E.cell? ⟨w.heap.size,1,none⟩=some (.slice (some ⟨cb,co,none⟩) xs.length ccap)/\E.cell? ⟨g,q,none⟩=some (.slice N 8 P));clear k)))
        go_wp2
        go_meet
        case rel=>exact ⟨by (have h:qLp W (qAy xs K p q) u7 E:=⟨Z.out.1.below n (Nat.le_refl _),c⟩);show qLp _ _ _ _;simpa using h,Or.inr trivial⟩
       | some s1 =>
        have ag:s1.length=8:=qVl U.out.1 a2.out;obtain ⟨vs,ab⟩:=Z.out.1
        go_region_held3 (fun z=>z.cell? ⟨w.heap.size,0,none⟩=some vm/\z.cell? ⟨w.heap.size,1,none⟩=some (.slice (some ⟨cb,co,none⟩) xs.length ccap)/\z.cell? ⟨g,q,none⟩=some (.slice N 8 P))
         (first|with_reducible exact O|exact a0.out)
         (first|(go_at_call 121;go_must (refine (qOo (nm:=nm) true (w:=wc.drew) ah.out HT.out Q ai.out U.out a2).mono ?_);rintro e E ⟨k,u1,rfl,y⟩;go_must (have n:Bw wc E:=qAg k;have c:Bw W E:=G.trans (n.mono G.size);have O:=(⟨(r.out E c).1,(r.out E c).2,(n.cell (p:=⟨g,q,none⟩) (show g<wc.heap.size by omega)).trans a0.out.2.2⟩:E.cell? ⟨w.heap.size,0,none⟩=some vm/\E.cell? ⟨w.heap.size,1,none⟩=some (.slice (some ⟨cb,co,none⟩) xs.length ccap)/\E.cell? ⟨g,q,none⟩=some (.slice N 8 P));have I:=ab.below n (Nat.le_refl _);(have R:E.ownsRow W.heap.size 153 4 u1 s1.length (qAo s1):=(by rw [ag];exact qCe y G.size));(have ac:=c.size);obtain ⟨a8,c8,rfl⟩:=qIo y;clear k y)))
        go_wp2_with (at_builtin;go_must (refine wpList_append_own _ rfl (.tmp 62) (.tmp 64) 99 rfl W.heap.size 124 i0 (.slice none 0 0) 1 24 Tryz.underlying99 hi ap ar af rfl (by decide) _ _ _ rfl (I.row.alloc _) ⟨_,0,none⟩ 1 1 [.slice a8 8 c8] rfl rfl (qKp _ _ (by first|rfl|(simp;done)) _ _) (qMr _ a8 8 c8 rfl) (by have:=Y.out;unfold maxLen;(try simp only [List.length_append]);omega) (by have:=Y.out;(try simp only [List.length_append]);omega) (by first|omega|(simp;done)|(simp;omega)) ?_);intro v6 w6 L S _;go_must (have ae:Hid (qLp W (qAy xs K p q++[s1]) v6 w6):=⟨⟨_,I.push R L S⟩,(c.alloc ac _).grown S (by first|omega|(simp;done)|(simp;omega)) (fun j hj=>(I.row.lt j hj).1)⟩;clear L S))
        go_meet
        case rel=>exact ⟨ae.out,Or.inr trivial⟩
     case rest =>
      rename World=>wd
      obtain ⟨a6,_⟩:=hcut;clear Z a0 ai ah G aa T az aj;have J:=a6.out.2;have bg:=J.size;have a1:Bw w wd:=a4.out.trans (J.mono (by omega));have a3:Hid (wd.cell? ⟨w.heap.size,0,none⟩=some vm/\wd.cell? ⟨w.heap.size,1,none⟩=some (.slice (some ⟨cb,co,none⟩) xs.length ccap)/\wd.cell? ⟨g,q,none⟩=some (.slice N 8 P)):=⟨(r.out wd J).1,(r.out wd J).2,(a1.cell (p:=⟨g,q,none⟩) ad).trans KU.out⟩;have al:=qAa (ax.out.below a1);have aq:=qAa (HC.out.below a1)
      go_upto_region 13 with fail
      go_cut [72] from 22 to 87 (fun v72 we=>v72=.bool D/\we=wd)
      case first =>
       cases o with
       | false =>
        go_wp2
        go_meet
        case rel=>exact ⟨by rw [HD.out];rfl,rfl⟩
       | true =>
        by_cases X:q+1=p
        ·have am:((q:Int)+1==p)=true:=by simp;omega
         go_wp2
         go_meet
         case rel=>exact ⟨by rw [HD.out];simp [X],rfl⟩
        ·have am:((q:Int)+1==p)=false:=by simp;omega
         go_wp2
         go_meet
         case rel=>exact ⟨by rw [HD.out];simp [X],rfl⟩
      case rest =>
      obtain ⟨rfl,rfl⟩:=hcut
      rename World=>wd
      cases D with
      | false =>
       go_wp2
       go_roundw
       case rel =>
        first|(refine ⟨q+1,by omega,by go_num,?_⟩)|((repeat apply Exists.intro);refine ⟨⟨q+1,by omega,by go_num,?_⟩,rfl⟩)
        have h:=a6.out
        show qLp _ _ _ _
        rw [HE.out]
        simpa using h
       case measure=>simp [intOf];omega
      | true =>
       go_wp2_with fail
       cases o2 with
       | none =>
        go_region_held3 (fun z=>z.cell? ⟨w.heap.size,0,none⟩=some vm/\z.cell? ⟨w.heap.size,1,none⟩=some (.slice (some ⟨cb,co,none⟩) xs.length ccap)/\z.cell? ⟨g,q,none⟩=some (.slice N 8 P))
         (first|with_reducible exact O|exact a3.out)
         (first|(go_at_call 121;go_must (refine (qOo (nm:=nm) false (w:=wd.drew) aq.out HT.out Q al.out U.out a5).mono ?_);rintro e F ⟨k,rfl⟩;go_must (have n:Bw wd F:=qAg k;have c:Bw W F:=J.trans (n.mono J.size);have O:=(⟨(r.out F c).1,(r.out F c).2,(n.cell (p:=⟨g,q,none⟩) (show g<wd.heap.size by omega)).trans a3.out.2.2⟩:F.cell? ⟨w.heap.size,0,none⟩=some vm/\F.cell? ⟨w.heap.size,1,none⟩=some (.slice (some ⟨cb,co,none⟩) xs.length ccap)/\F.cell? ⟨g,q,none⟩=some (.slice N 8 P));clear k)))
        go_wp2
        go_roundw
        case rel =>
         first|(refine ⟨q+1,by omega,by go_num,?_⟩)|((repeat apply Exists.intro);refine ⟨⟨q+1,by omega,by go_num,?_⟩,rfl⟩)
         (have h:qLp W (qAy xs K p q++(if A=true then o1.toList else [])) _ F:=⟨a6.out.1.below n (Nat.le_refl _),c⟩);show qLp _ _ _ _;rw [HE.out];simpa using h
        case measure=>simp [intOf];omega
       | some s1 =>
        have ag:s1.length=8:=qVl U.out.1 a5.out;obtain ⟨vs,ab⟩:=a6.out.1
        go_region_held3 (fun z=>z.cell? ⟨w.heap.size,0,none⟩=some vm/\z.cell? ⟨w.heap.size,1,none⟩=some (.slice (some ⟨cb,co,none⟩) xs.length ccap)/\z.cell? ⟨g,q,none⟩=some (.slice N 8 P))
         (first|with_reducible exact O|exact a3.out)
         (first|(go_at_call 121;go_must (refine (qOo (nm:=nm) false (w:=wd.drew) aq.out HT.out Q al.out U.out a5).mono ?_);rintro e F ⟨k,u1,rfl,y⟩;go_must (have n:Bw wd F:=qAg k;have c:Bw W F:=J.trans (n.mono J.size);have O:=(⟨(r.out F c).1,(r.out F c).2,(n.cell (p:=⟨g,q,none⟩) (show g<wd.heap.size by omega)).trans a3.out.2.2⟩:F.cell? ⟨w.heap.size,0,none⟩=some vm/\F.cell? ⟨w.heap.size,1,none⟩=some (.slice (some ⟨cb,co,none⟩) xs.length ccap)/\F.cell? ⟨g,q,none⟩=some (.slice N 8 P));have I:=ab.below n (Nat.le_refl _);(have R:F.ownsRow W.heap.size 153 4 u1 s1.length (qAo s1):=(by rw [ag];exact qCe y J.size));(have ac:=c.size);obtain ⟨a8,c8,rfl⟩:=qIo y;clear k y)))
        go_wp2_with (at_builtin;go_must (refine wpList_append_own _ rfl (.tmp 84) (.tmp 86) 99 rfl W.heap.size 124 i0 (.slice none 0 0) 1 24 Tryz.underlying99 hi ap ar af rfl (by decide) _ _ _ rfl (I.row.alloc _) ⟨_,0,none⟩ 1 1 [.slice a8 8 c8] rfl rfl (qKp _ _ (by first|rfl|(simp;done)) _ _) (qMr _ a8 8 c8 rfl) (by have:=Y.out;unfold maxLen;(try simp only [List.length_append]);omega) (by have:=Y.out;(try simp only [List.length_append]);omega) (by first|omega|(simp;done)|(simp;omega)) ?_);intro v6 w6 L S _;go_must (have ae:Hid (qLp W ((qAy xs K p q++(if A=true then o1.toList else []))++[s1]) v6 w6):=⟨⟨_,I.push R L S⟩,(c.alloc ac _).grown S (by first|omega|(simp;done)|(simp;omega)) (fun j hj=>(I.row.lt j hj).1)⟩;clear L S))
        go_roundw
        case rel =>
         first|(refine ⟨q+1,by omega,by go_num,?_⟩)|((repeat apply Exists.intro);refine ⟨⟨q+1,by omega,by go_num,?_⟩,rfl⟩)
         show qLp _ _ _ _;rw [HE.out];exact ae.out
        case measure=>simp [intOf];omega
     -- ENDWAYS
  ·have bf:¬ (q:Int)<p:=by omega
   have HE:Hid (q=p):=by show _=_;omega
   go_wp2;go_ret;exact ⟨u7,rfl,by have h1:=V.out.1.base (b:=w.heap.size) (by omega);rw [HE.out] at h1;exact h1,a4.out.trans (V.out.2.mono (by omega))⟩
theorem yJs (vm g I:Value)(w:World) :
  Cl 82 #[.agg #[vm,g],I4 0,I] w fun e z=>∃ u,e=.returned u/\Ss w.heap.size z u [List.replicate 8 Ty.nil]/\Bw w z:=by
 obtain ⟨F,hi,A,D,s⟩:=info_parts Tryz.infoSt;obtain ⟨f,l⟩:∃ f,Hid (f=(qAo (List.replicate 8 Ty.nil)).toArray):=⟨_,rfl⟩
 have J:∀ b:World,(Instr.makeSlice 124 (I4 8) (I4 8)).run Tryz.prog b=.ok (.slice (some ⟨b.heap.size,0,none⟩) 8 8) (b.alloc (.cells f 153)):=fun b=>by rw [l.out];exact qYc b
 obtain ⟨Y,E,B,o,n⟩:∃ Y,Hid (Y=(w.alloc (Obj.cells #[vm,g] 25)).alloc (.cells f 153))/\Hid (Y.ownsRow w.heap.size 153 4 (.slice (some ⟨w.heap.size+1,0,none⟩) 8 8) (List.replicate 8 Ty.nil).length (qAo (List.replicate 8 Ty.nil)))/\Bw w Y/\Y.heap.size=w.heap.size+2 :=
  ⟨_,rfl,by rw [l.out];exact (show (w.alloc (Obj.cells #[vm,g] 25)).heap.size=w.heap.size+1 by simp) ▸ xBq (w.alloc (Obj.cells #[vm,g] 25)) w.heap.size (by simp) (qAo (List.replicate 8 Ty.nil)) (by decide),by go_grown,by simp⟩
 have d:SsW w.heap.size Y stN [] []:=⟨rfl,World.ownsRow_nil _ _ _ _,fun i hi=>by simp at hi⟩;go_enter Tryz.func82,Tryz.ntmps82
 go_wp2_with (at_builtin;rw [<- E.out];go_must (refine wpList_append_own _ rfl (.tmp 18) (.tmp 20) 99 rfl w.heap.size 124 F (.slice none 0 0) 1 24 Tryz.underlying99 hi A D s rfl (by decide) _ _ _ rfl (d.row.alloc _) ⟨_,0,none⟩ 1 1 [.slice (some ⟨w.heap.size+1,0,none⟩) 8 8] rfl rfl (qKp _ _ (by first|(rw [n];done)|rfl|(simp;done)|(simp [n];done)) _ _) (qMr _ _ _ _ rfl) (by unfold maxLen;(first|omega|(simp;done)|decide)) (by first|omega|(simp;done)|decide) (by first|omega|(simp;done)|(simp;omega)) ?_);intro r y a c _;go_must (have k:Hid (Ss w.heap.size y r [List.replicate 8 Ty.nil]/\Bw w y):=⟨⟨_,d.push B.out a c⟩,(o.alloc o.size _).grown c (by first|omega|(simp;done)|(simp;omega)) (fun j G=>(d.row.lt j G).1)⟩;clear a c))
 go_loopw [7,8] (fun v7 v8 wr=>r=v7/\v8=I4 0/\y=wr) (fun _ _ _=>0)
 case atStart=>exact ⟨rfl,rfl,rfl⟩
 case round =>
  obtain ⟨rfl,rfl,rfl⟩:=hrel;go_wp2;go_ret;exact ⟨r,rfl,k.out.1,k.out.2⟩
theorem qYr (vm:Value)(cb co ccap:Nat)(xs:List In)(p:Nat)(b:Value)(K:List St)(nm B:Nat)(w:World)(o:SeesI w (.slice (some ⟨cb,co,none⟩) xs.length ccap) xs)(k:Ss B w b K)(r:Taken xs)(n:p<xs.length)(l:p<=K.length)(f:∀ s∈K,s=[]∨Made8 nm s) :
  Cl 82 #[.agg #[vm,.slice (some ⟨cb,co,none⟩) xs.length ccap],I4 p,b] w fun e d=>∃ u,e=.returned u/\Ss w.heap.size d u (qAy xs K p p)/\Bw w d:=by
 by_cases hp0:p=0
 ·subst hp0;exact yJs vm _ b w
 ·obtain ⟨g,c,a,z,rfl,y,_⟩:=k.get (i:=0) (by omega);exact yRg vm cb co ccap xs p g c K nm B w o k y r n l (by omega) f
def stU (C:List St) (r:Nat):St:=(List.range 8).map fun i=>if i<r then qEn (C.map fun s=>s.getD i Ty.nil) else Ty.nil
theorem qSv (C:List St)(r:Nat):(stU C r).length=8:=by simp [stU]
theorem ySw (C:List St):stU C 0=List.replicate 8 Ty.nil:=by
 unfold stU
 rfl
theorem yXq (C:List St):stU C 8=qDp C 8:=by
 unfold stU qDp
 apply List.map_congr_left
 intro i hi;rw [if_pos (List.mem_range.1 hi)]
theorem yVl (C:List St){r:Nat}(a:r<8):(stU C r).set r (qEn (C.map fun s=>s.getD r Ty.nil))=stU C (r+1):=by
 apply List.ext_getElem?
 intro i;rw [List.getElem?_set]
 by_cases hi:i<8
 ·by_cases hik:r=i
  ·subst hik
   simp [stU,List.getElem?_range hi,hi]
  ·rw [if_neg hik];simp only [stU,List.getElem?_map,List.getElem?_range hi,Option.map_some]
   by_cases hl:i<r
   ·rw [if_pos hl,if_pos (by omega)]
   ·rw [if_neg hl,if_neg (by omega)]
 ·rw [List.getElem?_eq_none (by rw [qSv];omega),if_neg (by omega),List.getElem?_eq_none (by rw [qSv];omega)]
def qIg (C:List St) (r:Nat):List Ty:=C.map fun s=>s.getD r Ty.nil
theorem yRk (C:List St)(r:Nat){j:Nat}(h:j<C.length):(qIg C r).take (j+1)=(qIg C r).take j++[(C.getD j []).getD r Ty.nil]:=by
 have a:j<(qIg C r).length:=by simpa [qIg] using h
 rw [List.take_add_one,List.getElem?_eq_getElem a]
 simp [qIg,List.getD,List.getElem?_eq_getElem h]
theorem yQi {v:Value}{l:List Ty}{w:World}{nm:Nat}{t:Ty}(c:SeesT w v l)(b:l≠[])(hm:∀ u∈l,Made nm u)(a:l.length<=1048576)(d:Hid (qEn l=t)) :
  Cl 83 #[v] w fun e f=>e=.returned (tyV t)/\Bw w f:=by
 rw [<- d.out];exact yIq v l w c b (fun u g=>(hm u g).ends) a
structure Row8 (w2 wr:World) (st:St):Prop where
 own:wr.ownsRow w2.heap.size 153 4 (.slice (some ⟨w2.heap.size,0,none⟩) 8 8) 8 (qAo st)
 bel:Below w2.heap.size w2 wr
theorem Row8.below {b wr a:World}{d:St}(h:Row8 b wr d)(c:Bw wr a):Row8 b a d:=⟨qCn h.own c (Nat.le_refl _),h.bel.trans (c.mono h.bel.size)⟩
theorem Row8.cells {c wr:World}{a:St}(h:Row8 c wr a)(f:a.length=8){k:Nat}(g:k<8):wr.cell? ⟨c.heap.size,k*4,none⟩=some (I4 (a.getD k Ty.nil).k)/\wr.cell? ⟨c.heap.size,k*4+1,none⟩=some (U8 (a.getD k Ty.nil).lo)/\wr.cell? ⟨c.heap.size,k*4+2,none⟩=some (U8 (a.getD k Ty.nil).hi)/\wr.cell? ⟨c.heap.size,k*4+3,none⟩=some (I4 (a.getD k Ty.nil).m):=by
 have b:∀ j,j<4->wr.cell? ⟨c.heap.size,k*4+j,none⟩=(tyC (a.getD k Ty.nil))[j]? := fun j d=>by
  rw [h.own.cellAt (k*4+j) (by omega)];exact qHu a k j (by omega) d
 exact ⟨b 0 (by omega),b 1 (by omega),b 2 (by omega),b 3 (by omega)⟩
theorem Row8.lt {a wr:World}{b:St}(h:Row8 a wr b):a.heap.size<wr.heap.size:=(h.own.lt a.heap.size rfl).2
theorem Row8.set {b wr:World}{a:St}(h:Row8 b wr a)(d:a.length=8){k:Nat}(c:k<8)(t:Ty):Row8 b (setT wr b.heap.size (k*4) t) (a.set k t) :=
 ⟨(qGp h.own k (by omega) t).1,qAz h.bel (Nat.le_refl _)⟩
theorem yZl (vm:Value)(cb co ccap:Nat)(xs:List In)(p:Nat)(c:Value)(K:List St)(nm B:Nat)(w:World)(i:SeesI w (.slice (some ⟨cb,co,none⟩) xs.length ccap) xs)(l:Ss B w c K)(n:Taken xs)(D:p<xs.length)(g:p<=K.length)(a:∀ s∈K,s=[]∨Made8 nm s)(k:qAy xs K p p=[]) :
  Cl 51 #[.agg #[vm,.slice (some ⟨cb,co,none⟩) xs.length ccap],I4 p,c] w fun e r=>e=.returned stN/\Bw w r:=by
 have o:=qAa i;have E:=qAa l;have A:=qAa n;have d:=qAa a;have z:=qAa k;clear i l n a k;go_enter Tryz.func51,Tryz.ntmps51
 go_wp2_with (go_at_call 82;go_must (refine (qYr vm cb co ccap xs p c K nm B _ (o.out.below ((Below.refl _ _).alloc (Nat.le_refl _) _)) (E.out.below ((Below.refl _ _).alloc (Nat.le_refl _) _) (Nat.le_refl _)) A.out D g d.out).mono ?_);rintro e I ⟨u,rfl,b,f⟩;go_must (rw [z.out] at b;obtain ⟨F,G,rfl⟩:=b.shape;have y:=qAt f;clear b f))
 go_ret;exact ⟨rfl,y⟩
end Go.Proofs.YtmdhljoicnommaaGreat
