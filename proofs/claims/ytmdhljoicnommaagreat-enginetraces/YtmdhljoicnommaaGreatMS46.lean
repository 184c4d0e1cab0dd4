/-
  RComes
  RComesA
  RAtA
-/
import Derived.Test.YtmdhljoicnommaaGreatMS45
import Derived.Test.YtmdhljoicnommaaGreatMS22
import Derived.Test.YtmdhljoicnommaaGreatMS33
import Derived.Deep.CutRange
namespace Go.Proofs.YtmdhljoicnommaaGreat
set_option maxHeartbeats 12800000
open Go.RowKit
set_option linter.unusedVariables false
set_option linter.unusedSimpArgs false
set_option maxRecDepth 100000
theorem Ss.at {B:Nat}{w:World}{g c:Nat}{S:List St}(h:Ss B w (.slice (some ⟨g,0,none⟩) S.length c) S){i:Nat}(hi:i<S.length):∃ a b,w.cell? ⟨g,i,none⟩=some (.slice a (S.getD i []).length b)/\SeesT w (.slice a (S.getD i []).length b) (S.getD i [])/\w.ownsRow B 153 4 (.slice a (S.getD i []).length b) (S.getD i []).length (flatT (S.getD i [])):=by
 obtain ⟨o,c',a,b,l,_,_,k,n,f⟩:=h.get hi;injection l with d s r;injection d with d;injection d with d;subst d;exact ⟨a,b,k,n,f⟩
theorem goesd_as {i:In}{f:Int}{l o:Bool}(n:Hid (f=i.far))(g:Hid (l=i.leads))(c:Hid (o=i.on))(w:World):Cl 38 #[instV i.op i.d i.a i.b i.imm] w fun e k=>e=.returned (.tuple #[I4 f,.bool l,.bool o])/\Bw w k:=by
 rw [n.out,g.out,c.out];exact goes_any i.op i.d i.a i.b i.imm w
theorem made_w64 {nm:Nat}{s:St}(h:Made8 nm s):∀ t∈s,W64 t.lo/\W64 t.hi:=fun t a=>(h.2 t a).ends
theorem comes_len (xs:List In)(K:List St)(p:Nat):∀ n,(comesU xs K p n).length<=2*n+1
 | 0=>by unfold comesU;split<;>simp
 | n+1=>by
  have e:comesU xs K p (n+1)=comesU xs K p n++stepC xs K p n:=by
   unfold comesU;rw [List.range_succ,List.flatMap_append,List.append_assoc]
   simp
  have b:=comes_len xs K p n
  have d:(stepC xs K p n).length<=2:=by
   unfold stepC
   split
   ·simp
   ·rw [List.length_append]
    have:∀ (c:Bool) (o:Option St),(if c=true then o.toList else []).length<=1:=fun c o=>by cases c<;>cases o<;>simp
    have f:=this ((nth xs n).leads&&decide ((n:Int)+(nth xs n).far=p)) (leavesJ (nth xs n) (K.getD n []) true);have a:=this ((nth xs n).on&&decide (n+1=p)) (leavesJ (nth xs n) (K.getD n []) false)
    omega
  rw [e,List.length_append]
  omega
theorem leaves_at {d:Value}{g f b:Nat}{xs:List In}{p:Nat}{vs:Value}{s:St}{nm:Nat}(a:Bool){w:World}{o:Option St}(k:SeesI w (.slice (some ⟨g,f,none⟩) xs.length b) xs)(i:Taken xs)(c:p<xs.length)(n:SeesT w vs s)(hm:Made8 nm s)(l:Hid (leavesJ (nth xs p) s a=o)) :
  Cl 121 #[.agg #[d,.slice (some ⟨g,f,none⟩) xs.length b],I4 p,vs,.bool a] w (Left9 w o):=by
 rw [<- l.out];exact leaves_any d _ vs xs p s a w k c n hm.1 (made_w64 hm) (qCd c (i.place p c)).1
theorem codeAt {w:World}{f l c k:Nat}{xs:List In}(h:SeesI w (.slice (some ⟨f,l,none⟩) xs.length c) xs)(g:k<xs.length):At w f (l+k*5) (nth xs k)/\f<w.heap.size/\xs.length<=c:=by
 obtain ⟨a,cap,y,u,_,_,d⟩:=h;injection y with r z s;subst r;subst s;obtain ⟨b,off,e,n,i⟩:=d (fun e=>by rw [e] at g;simp at g);injection e with e;injection e with e o;subst e;subst o;exact ⟨i k g,n,u⟩
theorem leaves_len {i:In}{s a:St}{b:Bool}(c:s.length=8)(h:leavesJ i s b=some a):a.length=8:=by
 unfold leavesJ at h
 repeat' split at h
 all_goals first|(injection h with h;subst h;simpa using c)|cases h
def Came (W:World) (C:List St) (v:Value) (wc:World):Prop:=Ss W.heap.size wc v C/\Below W.heap.size W wc
theorem comes_pos (O:Value)(M L g:Nat)(xs:List In)(p:Nat)(k kc:Nat)(K:List St)(nm B:Nat)(w:World)(hc:SeesI w (.slice (some ⟨M,L,none⟩) xs.length g) xs)(hk:Ss B w (.slice (some ⟨k,0,none⟩) K.length kc) K)(ad:k<w.heap.size)(hT:Taken xs)(hp:p<xs.length)(bh:p<=K.length)(bl:0<p)(au:∀ s∈K,s=[]∨Made8 nm s) :
  Cl 82 #[.agg #[O,.slice (some ⟨M,L,none⟩) xs.length g],I4 p,.slice (some ⟨k,0,none⟩) K.length kc] w fun e E=>∃ u,e=.returned u/\Ss w.heap.size E u (comesU xs K p p)/\Bw w E:=by
 obtain ⟨i0,hi,al,ap,ag⟩:=info_parts Tryz.infoSt;have HC:=keepJ hc;have HK:=keepJ hk;have HT:=keepJ hT;have ay:=keepJ au;have ba:xs.length<=64:=hT.top
 have b9:((p:Int)==0)=false:=by simp;omega
 obtain ⟨W,HW,a6,bf⟩:∃ W,Hid (W=w.alloc (Obj.cells #[O,.slice (some ⟨M,L,none⟩) xs.length g] 25))/\Hid (Bw w W)/\W.heap.size=w.heap.size+1 :=
  ⟨_,rfl,keepJ (by go_grown),by simp⟩
 have HM:Hid (W.cell? ⟨w.heap.size,0,none⟩=some O/\W.cell? ⟨w.heap.size,1,none⟩=some (.slice (some ⟨M,L,none⟩) xs.length g)):=by
  rw [HW.out];exact ⟨by go_cell,by go_cell⟩
 clear hc hk hT au;go_enter Tryz.func82,Tryz.ntmps82;go_wp2
 go_loopw [7,8] (fun v7 v8 wr=>∃ q:Nat,q<=p/\v8=I4 q/\Hid (Came W (comesU xs K p q) v7 wr)) (fun _ v8 _=>p-(intOf v8).toNat)
 case atStart =>
  refine ⟨0,Nat.zero_le _,rfl,?_,?_⟩
  ·rw [show comesU xs K p 0=[] by unfold comesU;rw [if_neg (by omega)];rfl];exact Ss.nil _ _
  ·rw [HW.out];exact Below.refl _ _
 case round =>
  rename World=>w0
  obtain ⟨q,hq,rfl,HR⟩:=hrel;have b2:=HR.out.2.size
  have y:Hid (∀ wx,Bw W wx->wx.cell? ⟨w.heap.size,0,none⟩=some O/\wx.cell? ⟨w.heap.size,1,none⟩=some (.slice (some ⟨M,L,none⟩) xs.length g)):=fun wx hb =>
   ⟨(hb.cell (p:=⟨w.heap.size,0,none⟩) (show w.heap.size<W.heap.size by omega)).trans HM.out.1,(hb.cell (p:=⟨w.heap.size,1,none⟩) (show w.heap.size<W.heap.size by omega)).trans HM.out.2⟩
  by_cases hlt:q<p
  ·have b6:(q:Int)<p:=by omega
   have V:q<xs.length:=by omega
   have ab:Bw w w0:=a6.out.trans (HR.out.2.mono (by omega));obtain ⟨s,HS⟩:∃ s,Hid (K.getD q []=s):=⟨_,rfl⟩;obtain ⟨X,T,ku,Q,_⟩:=HK.out.at (i:=q) (by omega);rw [HS.out] at ku Q;rw [<- ab.cell (p:=⟨k,q,none⟩) ad] at ku
   have bg:(q:Int)<K.length:=by omega
   by_cases hs0:s.length=0
   ·have b5:((s.length:Int)==0)=true:=by simp [hs0]
    have HE:Hid (comesU xs K p (q+1)=comesU xs K p q):=by
     show _=_
     rw [show comesU xs K p (q+1)=comesU xs K p q++stepC xs K p q by unfold comesU;rw [List.range_succ,List.flatMap_append,List.append_assoc];simp];unfold stepC;rw [HS.out,if_pos hs0,List.append_nil]
    go_wp2
    go_roundw
    case rel=>exact ⟨q+1,by omega,by go_num,by show Came _ _ _ _;rw [HE.out];exact HR.out⟩
    case measure=>simp [intOf];omega
   ·have am:Made8 nm s:=by
     have ax:K.getD q []∈K:=by
      rw [List.getD_eq_getElem?_getD,List.getElem?_eq_getElem (by omega)];exact List.getElem_mem _
     rcases ay.out _ ax with h|h
     ·rw [HS.out] at h;rw [h] at hs0;exact absurd rfl hs0
     ·rw [HS.out] at h;exact h
    have h8:=am.1;rw [h8] at ku Q
    have KU:Hid (w.cell? ⟨k,q,none⟩=some (.slice X 8 T)):=by rw [<- ab.cell (p:=⟨k,q,none⟩) ad];exact ku
    have b1:=keepJ Q;have ao:=keepJ (Q.below ab);have Z:=keepJ am;obtain ⟨av,bd,bc⟩:=codeAt (HC.out.below ab) V;obtain ⟨⟨op,d,a,b,aa⟩,HI⟩:∃ i,Hid (nth xs q=i):=⟨_,rfl⟩;rw [HI.out] at av;obtain ⟨c0,c1,c2,c3,c4⟩:=av;simp only at c0 c1 c2 c3 c4;obtain ⟨f,HF⟩:∃ f,Hid (f=In.far ⟨op,d,a,b,aa⟩):=⟨_,rfl⟩;obtain ⟨l,HL⟩:∃ l,Hid (l=In.leads ⟨op,d,a,b,aa⟩):=⟨_,rfl⟩;obtain ⟨o,HO⟩:∃ o,Hid (o=In.on ⟨op,d,a,b,aa⟩):=⟨_,rfl⟩
    have b3 : -64<=f/\f<=64:=by
     rw [HF.out];have b4:=qCd V (HT.out.place q V);rw [HI.out] at b4
     omega
    obtain ⟨b7,b8⟩:=b3;obtain ⟨A,HA⟩:∃ A,Hid (A=(l&&decide ((q:Int)+f=p))):=⟨_,rfl⟩;obtain ⟨D,HD⟩:∃ D,Hid (D=(o&&decide (q+1=p))):=⟨_,rfl⟩;obtain ⟨o1,a9⟩:∃ o1,Hid (leavesJ (nth xs q) s true=o1):=⟨_,rfl⟩;obtain ⟨o2,a5⟩:∃ o2,Hid (leavesJ (nth xs q) s false=o2):=⟨_,rfl⟩
    have HE:Hid (comesU xs K p (q+1)=comesU xs K p q++(if A=true then o1.toList else [])++(if D=true then o2.toList else [])):=by
     show _=_
     rw [show comesU xs K p (q+1)=comesU xs K p q++stepC xs K p q by unfold comesU;rw [List.range_succ,List.flatMap_append,List.append_assoc];simp];unfold stepC;rw [HS.out,if_neg hs0,a9.out,a5.out,HA.out,HD.out,HL.out,HO.out,HF.out,HI.out,List.append_assoc]
    have bi:(q:Int)<xs.length:=by omega
    have a0:Hid ((comesU xs K p q).length+(if A=true then o1.toList else []).length<=200):=by
     have h1:=comes_len xs K p (q+1);rw [HE.out,List.length_append,List.length_append] at h1
     show _<=_
     omega
    have bj:(xs.length:Int)<=64:=by omega
    obtain ⟨m0,m1⟩:=y.out w0 HR.out.2
    go_upto_region 9 with (go_at_call 38;go_must (refine (goesd_as (i:=⟨op,d,a,b,aa⟩) HF HL HO _).mono ?_);rintro e w1 ⟨rfl,Y⟩;go_must (have bk:=Y.size;have a1:Hid (Came W (comesU xs K p q) u7 w1):=⟨HR.out.1.below Y (Nat.le_refl _),HR.out.2.trans (Y.mono b2)⟩))
    go_cut [50] from 22 to 87 (fun v50 wc=>v50=.bool A/\wc=w1)
    case first =>
     cases l with
     | false =>
      go_wp2
      go_meet
      case rel=>exact ⟨by rw [HA.out];rfl,rfl⟩
     | true =>
      by_cases hc:(q:Int)+f=p
      ·go_wp2
       go_meet
       case rel=>exact ⟨by rw [HA.out];simp [hc],rfl⟩
      ·have ar:((q:Int)+f==p)=false:=by simpa using hc
       go_wp2
       go_meet
       case rel=>exact ⟨by rw [HA.out];simp [hc],rfl⟩
    case rest =>
     obtain ⟨rfl,rfl⟩:=hcut;clear HR;have I:=a1.out.2;have az:=I.size;have aj:Bw w wc:=a6.out.trans (I.mono (by omega));have a2:Hid (wc.cell? ⟨w.heap.size,0,none⟩=some O/\wc.cell? ⟨w.heap.size,1,none⟩=some (.slice (some ⟨M,L,none⟩) xs.length g)/\wc.cell? ⟨k,q,none⟩=some (.slice X 8 T)):=⟨(y.out wc I).1,(y.out wc I).2,(Y.cell (p:=⟨k,q,none⟩) (show k<w0.heap.size by omega)).trans ku⟩;have ai:=keepJ (ao.out.below Y);have ae:=keepJ (HC.out.below aj);clear m0 m1 c0 c1 c2 c3 c4 ku
     go_upto_if 50 with fail
     -- WAYS
     go_cut [7,12,13] from 22 to 87 (fun v7 v12 v13 wd=>Hid (Came W (comesU xs K p q++(if A=true then o1.toList else [])) v7 wd)/\(Hid (wd=wd∨True)))
     case first =>
      cases A with
      | false =>
       go_wp2
       go_meet
       case rel=>exact ⟨by show Came _ _ _ _;simpa using a1.out,Or.inr trivial⟩
      | true =>
       go_wp2_with fail
       cases o1 with
       | none =>
        go_region_held3 (fun E=>E.cell? ⟨w.heap.size,0,none⟩=some O/\E.cell? ⟨w.heap.size,1,none⟩=some (.slice (some ⟨M,L,none⟩) xs.length g)/\E.cell? ⟨k,q,none⟩=some (.slice X 8 T))
         (first|with_reducible exact S|exact a2.out)
         (first|(go_at_call 121;go_must (refine (leaves_at (nm:=nm) true (w:=wc.drew) ae.out HT.out V ai.out Z.out a9).mono ?_);rintro e F ⟨n,rfl⟩;go_must (have r:Bw wc F:=qAf n;have c:Bw W F:=I.trans (r.mono I.size);have S:=(⟨(y.out F c).1,(y.out F c).2,(r.cell (p:=⟨k,q,none⟩) (show k<wc.heap.size by omega)).trans a2.out.2.2⟩:F.cell? ⟨w.heap.size,0,none⟩=some O/\F.cell? ⟨w.heap.size,1,none⟩=some (.slice (some ⟨M,L,none⟩) xs.length g)/\F.cell? ⟨k,q,none⟩=some (.slice X 8 T));clear n)))
        go_wp2
        go_meet
        case rel=>exact ⟨by (have h:Came W (comesU xs K p q) u7 F:=⟨a1.out.1.below r (Nat.le_refl _),c⟩);show Came _ _ _ _;simpa using h,Or.inr trivial⟩
       | some s1 =>
        have ak:s1.length=8:=leaves_len Z.out.1 a9.out;obtain ⟨vs,ac⟩:=a1.out.1
        go_region_held3 (fun E=>E.cell? ⟨w.heap.size,0,none⟩=some O/\E.cell? ⟨w.heap.size,1,none⟩=some (.slice (some ⟨M,L,none⟩) xs.length g)/\E.cell? ⟨k,q,none⟩=some (.slice X 8 T))
         (first|with_reducible exact S|exact a2.out)
         (first|(go_at_call 121;go_must (refine (leaves_at (nm:=nm) true (w:=wc.drew) ae.out HT.out V ai.out Z.out a9).mono ?_);rintro e F ⟨n,u1,rfl,z⟩;go_must (have r:Bw wc F:=qAf n;have c:Bw W F:=I.trans (r.mono I.size);have S:=(⟨(y.out F c).1,(y.out F c).2,(r.cell (p:=⟨k,q,none⟩) (show k<wc.heap.size by omega)).trans a2.out.2.2⟩:F.cell? ⟨w.heap.size,0,none⟩=some O/\F.cell? ⟨w.heap.size,1,none⟩=some (.slice (some ⟨M,L,none⟩) xs.length g)/\F.cell? ⟨k,q,none⟩=some (.slice X 8 T));have J:=ac.below r (Nat.le_refl _);(have U:F.ownsRow W.heap.size 153 4 u1 s1.length (flatT s1):=(by rw [ak];exact qAx z I.size));(have ah:=c.size);obtain ⟨a8,c8,rfl⟩:=own_shapeT z;clear n z)))
        go_wp2_with (at_builtin;go_must (refine wpList_append_own _ rfl (.tmp 62) (.tmp 64) 99 rfl W.heap.size 124 i0 (.slice none 0 0) 1 24 Tryz.underlying99 hi al ap ag rfl (by decide) _ _ _ rfl (J.row.alloc _) ⟨_,0,none⟩ 1 1 [.slice a8 8 c8] rfl rfl (one_lit _ _ (by first|rfl|(simp;done)) _ _) (one_sl _ a8 8 c8 rfl) (by have:=a0.out;unfold maxLen;(try simp only [List.length_append]);omega) (by have:=a0.out;(try simp only [List.length_append]);omega) (by first|omega|(simp;done)|(simp;omega)) ?_);intro v6 w6 P R _;go_must (have af:Hid (Came W (comesU xs K p q++[s1]) v6 w6):=⟨⟨_,J.push U P R⟩,(c.alloc ah _).grown R (by first|omega|(simp;done)|(simp;omega)) (fun j hj=>(J.row.lt j hj).1)⟩;clear P R))
        go_meet
        case rel=>exact ⟨af.out,Or.inr trivial⟩
     case rest =>
      rename World=>wd
      obtain ⟨a7,_⟩:=hcut;clear a1 a2 ai ae I aj Y az ao;have N:=a7.out.2;have be:=N.size;have a3:Bw w wd:=a6.out.trans (N.mono (by omega));have a4:Hid (wd.cell? ⟨w.heap.size,0,none⟩=some O/\wd.cell? ⟨w.heap.size,1,none⟩=some (.slice (some ⟨M,L,none⟩) xs.length g)/\wd.cell? ⟨k,q,none⟩=some (.slice X 8 T)):=⟨(y.out wd N).1,(y.out wd N).2,(a3.cell (p:=⟨k,q,none⟩) ad).trans KU.out⟩;have aq:=keepJ (b1.out.below a3);have aw:=keepJ (HC.out.below a3)
      go_upto_region 13 with fail
      go_cut [72] from 22 to 87 (fun v72 we=>v72=.bool D/\we=wd)
      case first =>
       cases o with
       | false =>
        go_wp2
        go_meet
        case rel=>exact ⟨by rw [HD.out];rfl,rfl⟩
       | true =>
        by_cases hc:q+1=p
        ·have ar:((q:Int)+1==p)=true:=by simp;omega
         go_wp2
         go_meet
         case rel=>exact ⟨by rw [HD.out];simp [hc],rfl⟩
        ·have ar:((q:Int)+1==p)=false:=by simp;omega
         go_wp2
         go_meet
         case rel=>exact ⟨by rw [HD.out];simp [hc],rfl⟩
      case rest =>
      obtain ⟨rfl,rfl⟩:=hcut
      rename World=>wd
      cases D with
      | false =>
       go_wp2
       go_roundw
       case rel =>
        first|(refine ⟨q+1,by omega,by go_num,?_⟩)|((repeat apply Exists.intro);refine ⟨⟨q+1,by omega,by go_num,?_⟩,rfl⟩)
        have h:=a7.out
        show Came _ _ _ _
        rw [HE.out]
        simpa using h
       case measure=>simp [intOf];omega
      | true =>
       go_wp2_with fail
       cases o2 with
       | none =>
        go_region_held3 (fun E=>E.cell? ⟨w.heap.size,0,none⟩=some O/\E.cell? ⟨w.heap.size,1,none⟩=some (.slice (some ⟨M,L,none⟩) xs.length g)/\E.cell? ⟨k,q,none⟩=some (.slice X 8 T))
         (first|with_reducible exact S|exact a4.out)
         (first|(go_at_call 121;go_must (refine (leaves_at (nm:=nm) false (w:=wd.drew) aw.out HT.out V aq.out Z.out a5).mono ?_);rintro e G ⟨n,rfl⟩;go_must (have r:Bw wd G:=qAf n;have c:Bw W G:=N.trans (r.mono N.size);have S:=(⟨(y.out G c).1,(y.out G c).2,(r.cell (p:=⟨k,q,none⟩) (show k<wd.heap.size by omega)).trans a4.out.2.2⟩:G.cell? ⟨w.heap.size,0,none⟩=some O/\G.cell? ⟨w.heap.size,1,none⟩=some (.slice (some ⟨M,L,none⟩) xs.length g)/\G.cell? ⟨k,q,none⟩=some (.slice X 8 T));clear n)))
        go_wp2
        go_roundw
        case rel =>
         first|(refine ⟨q+1,by omega,by go_num,?_⟩)|((repeat apply Exists.intro);refine ⟨⟨q+1,by omega,by go_num,?_⟩,rfl⟩)
         (have h:Came W (comesU xs K p q++(if A=true then o1.toList else [])) _ G:=⟨a7.out.1.below r (Nat.le_refl _),c⟩);show Came _ _ _ _;rw [HE.out];simpa using h
        case measure=>simp [intOf];omega
       | some s1 =>
        have ak:s1.length=8:=leaves_len Z.out.1 a5.out;obtain ⟨vs,ac⟩:=a7.out.1
        go_region_held3 (fun E=>E.cell? ⟨w.heap.size,0,none⟩=some O/\E.cell? ⟨w.heap.size,1,none⟩=some (.slice (some ⟨M,L,none⟩) xs.length g)/\E.cell? ⟨k,q,none⟩=some (.slice X 8 T))
         (first|with_reducible exact S|exact a4.out)
         (first|(go_at_call 121;go_must (refine (leaves_at (nm:=nm) false (w:=wd.drew) aw.out HT.out V aq.out Z.out a5).mono ?_);rintro e G ⟨n,u1,rfl,z⟩;go_must (have r:Bw wd G:=qAf n;have c:Bw W G:=N.trans (r.mono N.size);have S:=(⟨(y.out G c).1,(y.out G c).2,(r.cell (p:=⟨k,q,none⟩) (show k<wd.heap.size by omega)).trans a4.out.2.2⟩:G.cell? ⟨w.heap.size,0,none⟩=some O/\G.cell? ⟨w.heap.size,1,none⟩=some (.slice (some ⟨M,L,none⟩) xs.length g)/\G.cell? ⟨k,q,none⟩=some (.slice X 8 T));have J:=ac.below r (Nat.le_refl _);(have U:G.ownsRow W.heap.size 153 4 u1 s1.length (flatT s1):=(by rw [ak];exact qAx z N.size));(have ah:=c.size);obtain ⟨a8,c8,rfl⟩:=own_shapeT z;clear n z)))
        go_wp2_with (at_builtin;go_must (refine wpList_append_own _ rfl (.tmp 84) (.tmp 86) 99 rfl W.heap.size 124 i0 (.slice none 0 0) 1 24 Tryz.underlying99 hi al ap ag rfl (by decide) _ _ _ rfl (J.row.alloc _) ⟨_,0,none⟩ 1 1 [.slice a8 8 c8] rfl rfl (one_lit _ _ (by first|rfl|(simp;done)) _ _) (one_sl _ a8 8 c8 rfl) (by have:=a0.out;unfold maxLen;(try simp only [List.length_append]);omega) (by have:=a0.out;(try simp only [List.length_append]);omega) (by first|omega|(simp;done)|(simp;omega)) ?_);intro v6 w6 P R _;go_must (have af:Hid (Came W ((comesU xs K p q++(if A=true then o1.toList else []))++[s1]) v6 w6):=⟨⟨_,J.push U P R⟩,(c.alloc ah _).grown R (by first|omega|(simp;done)|(simp;omega)) (fun j hj=>(J.row.lt j hj).1)⟩;clear P R))
        go_roundw
        case rel =>
         first|(refine ⟨q+1,by omega,by go_num,?_⟩)|((repeat apply Exists.intro);refine ⟨⟨q+1,by omega,by go_num,?_⟩,rfl⟩)
         show Came _ _ _ _;rw [HE.out];exact af.out
        case measure=>simp [intOf];omega
     -- ENDWAYS
  ·have bb:¬ (q:Int)<p:=by omega
   have HE:Hid (q=p):=by show _=_;omega
   go_wp2;go_ret;exact ⟨u7,rfl,by have h1:=HR.out.1.base (b:=w.heap.size) (by omega);rw [HE.out] at h1;exact h1,a6.out.trans (HR.out.2.mono (by omega))⟩
theorem comes_zero (g f J:Value)(w:World) :
  Cl 82 #[.agg #[g,f],I4 0,J] w fun e E=>∃ u,e=.returned u/\Ss w.heap.size E u [List.replicate 8 Ty.nil]/\Bw w E:=by
 obtain ⟨F,hi,A,B,z⟩:=info_parts Tryz.infoSt;obtain ⟨k,r⟩:∃ k,Hid (k=(flatT (List.replicate 8 Ty.nil)).toArray):=⟨_,rfl⟩
 have K:∀ c:World,(Instr.makeSlice 124 (I4 8) (I4 8)).run Tryz.prog c=.ok (.slice (some ⟨c.heap.size,0,none⟩) 8 8) (c.alloc (.cells k 153)):=fun c=>by rw [r.out];exact run_make8 c
 obtain ⟨Y,G,D,n,l⟩:∃ Y,Hid (Y=(w.alloc (Obj.cells #[g,f] 25)).alloc (.cells k 153))/\Hid (Y.ownsRow w.heap.size 153 4 (.slice (some ⟨w.heap.size+1,0,none⟩) 8 8) (List.replicate 8 Ty.nil).length (flatT (List.replicate 8 Ty.nil)))/\Bw w Y/\Y.heap.size=w.heap.size+2 :=
  ⟨_,rfl,by rw [r.out];exact (show (w.alloc (Obj.cells #[g,f] 25)).heap.size=w.heap.size+1 by simp) ▸ own8 (w.alloc (Obj.cells #[g,f] 25)) w.heap.size (by simp) (flatT (List.replicate 8 Ty.nil)) (by decide),by go_grown,by simp⟩
 have b:SsW w.heap.size Y stN [] []:=⟨rfl,World.ownsRow_nil _ _ _ _,fun i hi=>by simp at hi⟩;go_enter Tryz.func82,Tryz.ntmps82
 go_wp2_with (at_builtin;rw [<- G.out];go_must (refine wpList_append_own _ rfl (.tmp 18) (.tmp 20) 99 rfl w.heap.size 124 F (.slice none 0 0) 1 24 Tryz.underlying99 hi A B z rfl (by decide) _ _ _ rfl (b.row.alloc _) ⟨_,0,none⟩ 1 1 [.slice (some ⟨w.heap.size+1,0,none⟩) 8 8] rfl rfl (one_lit _ _ (by first|(rw [l];done)|rfl|(simp;done)|(simp [l];done)) _ _) (one_sl _ _ _ _ rfl) (by unfold maxLen;(first|omega|(simp;done)|decide)) (by first|omega|(simp;done)|decide) (by first|omega|(simp;done)|(simp;omega)) ?_);intro y s a d _;go_must (have o:Hid (Ss w.heap.size s y [List.replicate 8 Ty.nil]/\Bw w s):=⟨⟨_,b.push D.out a d⟩,(n.alloc n.size _).grown d (by first|omega|(simp;done)|(simp;omega)) (fun j I=>(b.row.lt j I).1)⟩;clear a d))
 go_loopw [7,8] (fun v7 v8 wr=>y=v7/\v8=I4 0/\s=wr) (fun _ _ _=>0)
 case atStart=>exact ⟨rfl,rfl,rfl⟩
 case round =>
  obtain ⟨rfl,rfl,rfl⟩:=hrel;go_wp2;go_ret;exact ⟨y,rfl,o.out.1,o.out.2⟩
theorem comes_any (f:Value)(l k b:Nat)(xs:List In)(p:Nat)(d:Value)(K:List St)(nm B:Nat)(w:World)(D:SeesI w (.slice (some ⟨l,k,none⟩) xs.length b) xs)(y:Ss B w d K)(A:Taken xs)(E:p<xs.length)(n:p<=K.length)(r:∀ s∈K,s=[]∨Made8 nm s) :
  Cl 82 #[.agg #[f,.slice (some ⟨l,k,none⟩) xs.length b],I4 p,d] w fun e o=>∃ u,e=.returned u/\Ss w.heap.size o u (comesU xs K p p)/\Bw w o:=by
 by_cases hp0:p=0
 ·subst hp0;exact comes_zero f _ d w
 ·obtain ⟨g,c,a,F,rfl,z,_⟩:=y.get (i:=0) (by omega);exact comes_pos f l k b xs p g c K nm B w D y z A E n (by omega) r
def stU (C:List St) (r:Nat):St:=(List.range 8).map fun i=>if i<r then joinT (C.map fun s=>s.getD i Ty.nil) else Ty.nil
theorem stU_len (C:List St)(r:Nat):(stU C r).length=8:=by simp [stU]
theorem stU_zero (C:List St):stU C 0=List.replicate 8 Ty.nil:=by
 unfold stU
 rfl
theorem stU_all (C:List St):stU C 8=joinS C 8:=by
 unfold stU joinS
 apply List.map_congr_left
 intro i hi;rw [if_pos (List.mem_range.1 hi)]
theorem stU_step (C:List St){r:Nat}(a:r<8):(stU C r).set r (joinT (C.map fun s=>s.getD r Ty.nil))=stU C (r+1):=by
 apply List.ext_getElem?
 intro i;rw [List.getElem?_set]
 by_cases hi:i<8
 ·by_cases hik:r=i
  ·subst hik
   simp [stU,List.getElem?_range hi,hi]
  ·rw [if_neg hik];simp only [stU,List.getElem?_map,List.getElem?_range hi,Option.map_some]
   by_cases hl:i<r
   ·rw [if_pos hl,if_pos (by omega)]
   ·rw [if_neg hl,if_neg (by omega)]
 ·rw [List.getElem?_eq_none (by rw [stU_len];omega),if_neg (by omega),List.getElem?_eq_none (by rw [stU_len];omega)]
def colT (C:List St) (r:Nat):List Ty:=C.map fun s=>s.getD r Ty.nil
theorem colT_take (C:List St)(r:Nat){j:Nat}(h:j<C.length):(colT C r).take (j+1)=(colT C r).take j++[(C.getD j []).getD r Ty.nil]:=by
 have a:j<(colT C r).length:=by simpa [colT] using h
 rw [List.take_add_one,List.getElem?_eq_getElem a]
 simp [colT,List.getD,List.getElem?_eq_getElem h]
theorem joined_as {v:Value}{l:List Ty}{w:World}{nm:Nat}{t:Ty}(d:SeesT w v l)(b:l≠[])(hm:∀ u∈l,Made nm u)(a:l.length<=1048576)(g:Hid (joinT l=t)) :
  Cl 83 #[v] w fun e f=>e=.returned (tyV t)/\Bw w f:=by
 rw [<- g.out];exact joined_any v l w d b (fun u c=>(hm u c).ends) a
structure Row8 (w2 wr:World) (st:St):Prop where
 own:wr.ownsRow w2.heap.size 153 4 (.slice (some ⟨w2.heap.size,0,none⟩) 8 8) 8 (flatT st)
 bel:Below w2.heap.size w2 wr
theorem Row8.below {b wr a:World}{c:St}(h:Row8 b wr c)(d:Bw wr a):Row8 b a c:=⟨qBa h.own d (Nat.le_refl _),h.bel.trans (d.mono h.bel.size)⟩
theorem Row8.cells {c wr:World}{a:St}(h:Row8 c wr a)(g:a.length=8){k:Nat}(f:k<8):wr.cell? ⟨c.heap.size,k*4,none⟩=some (I4 (a.getD k Ty.nil).k)/\wr.cell? ⟨c.heap.size,k*4+1,none⟩=some (U8 (a.getD k Ty.nil).lo)/\wr.cell? ⟨c.heap.size,k*4+2,none⟩=some (U8 (a.getD k Ty.nil).hi)/\wr.cell? ⟨c.heap.size,k*4+3,none⟩=some (I4 (a.getD k Ty.nil).m):=by
 have b:∀ j,j<4->wr.cell? ⟨c.heap.size,k*4+j,none⟩=(tyC (a.getD k Ty.nil))[j]? := fun j d=>by
  rw [h.own.cellAt (k*4+j) (by omega)];exact flatT_at a k j (by omega) d
 exact ⟨b 0 (by omega),b 1 (by omega),b 2 (by omega),b 3 (by omega)⟩
theorem Row8.lt {a wr:World}{b:St}(h:Row8 a wr b):a.heap.size<wr.heap.size:=(h.own.lt a.heap.size rfl).2
theorem Row8.set {a wr:World}{b:St}(h:Row8 a wr b)(c:b.length=8){k:Nat}(d:k<8)(t:Ty):Row8 a (setT wr a.heap.size (k*4) t) (b.set k t) :=
 ⟨(qCv h.own k (by omega) t).1,qAn h.bel (Nat.le_refl _)⟩
theorem at_none (o:Value)(g f a:Nat)(xs:List In)(p:Nat)(c:Value)(K:List St)(nm B:Nat)(w:World)(r:SeesI w (.slice (some ⟨g,f,none⟩) xs.length a) xs)(n:Ss B w c K)(k:Taken xs)(G:p<xs.length)(l:p<=K.length)(b:∀ s∈K,s=[]∨Made8 nm s)(i:comesU xs K p p=[]) :
  Cl 51 #[.agg #[o,.slice (some ⟨g,f,none⟩) xs.length a],I4 p,c] w fun e J=>e=.returned stN/\Bw w J:=by
 have I:=keepJ r;have A:=keepJ n;have E:=keepJ k;have y:=keepJ b;have F:=keepJ i;clear r n k b i;go_enter Tryz.func51,Tryz.ntmps51
 go_wp2_with (go_at_call 82;go_must (refine (comes_any o g f a xs p c K nm B _ (I.out.below ((Below.refl _ _).alloc (Nat.le_refl _) _)) (A.out.below ((Below.refl _ _).alloc (Nat.le_refl _) _) (Nat.le_refl _)) E.out G l y.out).mono ?_);rintro e L ⟨u,rfl,d,z⟩;go_must (rw [F.out] at d;obtain ⟨M,N,rfl⟩:=d.shape;have D:=qAl z;clear d z))
 go_ret;exact ⟨rfl,D⟩
end Go.Proofs.YtmdhljoicnommaaGreat
