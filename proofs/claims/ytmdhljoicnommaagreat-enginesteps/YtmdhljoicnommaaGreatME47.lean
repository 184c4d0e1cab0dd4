
/-
 What the document's All answers. No condition beyond the argument's reading.
-/
import Derived.Test.YtmdhljoicnommaaGreatME46
import Derived.Test.YtmdhljoicnommaaGreatME36
namespace Go.Proofs.YtmdhljoicnommaaGreat
set_option maxHeartbeats 12800000
open Go.RowKit
set_option linter.unusedVariables false
set_option linter.unusedSimpArgs false
set_option maxRecDepth 100000

theorem yWc {xs : List In}{nm p : Nat}{e : Int × Int}(h : qFh xs nm p = .error e) : ∀ n, p <= n -> qFh xs nm n = .error e := by
  intro n a
  induction n with
  | zero => obtain rfl : p = 0 := by omega
            exact h
  | succ n ih =>
    by_cases hp : p = n + 1
    · subst hp; exact h
    · rw [qFh, ih (by omega)]
structure RunF (xs:List In) (nm q:Nat) (K:List St):Prop where
 len:K.length=q
 each:∀ s∈K,s=[]∨Made8 nm s
 cm:∀ c∈qAy xs K q q,Made8 nm c
 head:q<xs.length->qAy xs K q q≠[]->(nth xs q).op=20->0<=(q:Int)-(nth xs q).d/\(q:Int)-(nth xs q).d<q/\(K.getD ((q:Int)-(nth xs q).d).toNat []).length=8
theorem yPi {xs:List In}{nm q:Nat}{K:List St}(i:Taken xs)(o:q<=xs.length)(h:qFh xs nm q=.ok K):RunF xs nm q K:=by
 rcases qNo (nm:=nm) i q o with ⟨e,w,c⟩|⟨F,z,w,c,a⟩
 ·rw [h] at c;cases c
 ·rw [h] at c;injection c with c;subst c;refine ⟨a.len,fun s A=>?_,a.cm q,fun f n r=>?_⟩
  ·obtain ⟨k,g,rfl⟩:=List.mem_iff_getElem.1 A;have b:=a.low k (by rw [<- a.len];exact g);rw [List.getD_eq_getElem?_getD,List.getElem?_eq_getElem g] at b;simp only [Option.getD_some] at b;rw [b]
   split
   ·exact .inr (a.made.at k)
   ·exact .inl rfl
  ·have D:=i.right f;have E:=qEl f (i.place q f)
   have G:(nth xs q).far = -(nth xs q).d/\1<=(nth xs q).d:=by
    rcases qBf (nth xs q) with h|h|h|h
    ·rw [D] at h;cases h.1
    ·omega
    ·exact ⟨h.2.2.1,h.2.2.2.2.2.1⟩
    ·omega
   have u:((q:Int)-(nth xs q).d).toNat<q:=by omega
   have g:=(a.high q (Nat.le_refl _) f).1.2 n;have y:qBm xs q∈qAk xs:=loopsU_mem.2 ⟨q,f,r,rfl⟩;have l:=(qSb i o w).2 _ y q (by show (q:Int)+(nth xs q).far<q;omega) (Int.le_refl _) g
   have B:(qBm xs q).h.toNat=((q:Int)-(nth xs q).d).toNat:=by show ((q:Int)+(nth xs q).far).toNat=_;omega
   rw [B] at l;refine ⟨by omega,by omega,?_⟩;rw [a.low _ u,if_pos l];exact (a.made.at _).1
theorem qUl {xs:List In}{nm q:Nat}{K:List St}(h:qFh xs nm q=.ok K)(he:qLq xs nm K (atJ xs K q) q=0):qFh xs nm (q+1)=.ok (K++[atJ xs K q]):=by
 rw [qFh,h];simp only;rw [if_pos he]
theorem yDu {xs:List In}{nm q:Nat}{K:List St}{E:Int}(h:qFh xs nm q=.ok K)(he:qLq xs nm K (atJ xs K q) q=E)(h0:E≠0)(a:q<xs.length):qFh xs nm xs.length=.error ((q:Int),E):=by
 refine yWc (p:=q+1) ?_ _ (by omega);rw [qFh,h];simp only;rw [he,if_neg h0]
theorem xBw {xs:List In}{K:List St}{p:Nat}(h:qAy xs K p p=[]):atJ xs K p=[]:=by unfold atJ;rw [if_pos (by rw [h];rfl)]
theorem xBn {xs:List In}{K:List St}{p:Nat}(h:qAy xs K p p≠[]):atJ xs K p=qFd xs p (qDp (qAy xs K p p) 8) xs.length:=by
 unfold atJ;rw [if_neg (by intro a;exact h (List.length_eq_zero_iff.1 a))]
theorem qSx {am:Option Addr}{nm mcap:Nat}{b vs a:Value}{xs:List In}{p:Nat}{s head:St}{w:World}{E:Int}(l:SeesI w b xs)(f:p<xs.length)(c:SeesT w vs s)(d:s.length=8)(g:(nth xs p).right=true)(n:(nth xs p).op=20->SeesT w a head/\head.length=8)(k:Hid (qEc nm (nth xs p) s head=E)) :
  Cl 52 #[.agg #[.slice am nm mcap,b],I4 p,vs,a] w fun e i=>e=.returned (I4 E)/\Bw w i:=by
 rw [<- k.out];exact yWj am nm mcap b vs a xs p s head w l f c d g n
theorem SsW.last {B:Nat}{w:World}{v u:Value}{S:List St}{vs:List Value}{s:St}(h:SsW B w v (S++[s]) (vs++[u])):w.ownsRow B 153 4 u s.length (qAo s):=by
 have c:vs.length=S.length:=by have:=h.len;simp at this;exact this
 have:=h.each S.length (by simp)
 have b:(vs++[u]).getD S.length stN=u:=by rw [<- c];simp [List.getD]
 have a:(S++[s]).getD S.length []=s:=by simp [List.getD]
 rw [b,a] at this;exact this
def xBu (W:World) (xs:List In) (nm q:Nat) (K:List St) (v:Value) (wc:World):Prop:=qFh xs nm q=.ok K/\Ss W.heap.size wc v K/\Below W.heap.size W wc
theorem yZq (am:Option Addr)(mcap:Nat)(ms:List Int)(cb co ccap:Nat)(xs:List In)(w:World)(hm:Sees .i64 w (.slice am ms.length mcap) ms)(hx:SeesI w (.slice (some ⟨cb,co,none⟩) xs.length ccap) xs)(b7:Hid (qGa ms=true))(hT:Taken xs) :
  Cl 28 #[.agg #[.slice am ms.length mcap,.slice (some ⟨cb,co,none⟩) xs.length ccap]] w fun e w' =>
   (∃ q E,qFh xs ms.length xs.length=.error (q,E)/\e=.returned (.tuple #[stN,I4 q,I4 E])/\Bw w w') ∨
   (∃ K,qFh xs ms.length xs.length=.ok K/\∃ u,e=.returned (.tuple #[u,I4 0,I4 0])/\Ss w.heap.size w' u K/\Bw w w'):=by
 obtain ⟨i0,hi,aa,ac,X⟩:=info_parts Tryz.infoSt;have HX:=qAa hx;have HT:=qAa hT;have aq:=qAa hm;have bg:xs.length<=64:=hT.top;have b6:Hid (qCh xs=(0,0)):=yKe (check_ok.2 hT);obtain ⟨nm,az⟩:∃ nm,Hid (ms.length=nm):=⟨_,rfl⟩;rw [az.out] at aq ⊢;obtain ⟨W,HW,a8,bc⟩:∃ W,Hid (W=w.alloc (Obj.cells #[.slice am nm mcap,.slice (some ⟨cb,co,none⟩) xs.length ccap] 25))/\Hid (Bw w W)/\W.heap.size=w.heap.size+1 :=
  ⟨_,rfl,qAa (by go_grown),by simp⟩
 have HM:Hid (W.cell? ⟨w.heap.size,0,none⟩=some (.slice am nm mcap)/\W.cell? ⟨w.heap.size,1,none⟩=some (.slice (some ⟨cb,co,none⟩) xs.length ccap)):=by
  rw [HW.out];exact ⟨by go_cell,by go_cell⟩
 have a0:Hid (∀ wx,Bw W wx->wx.cell? ⟨w.heap.size,0,none⟩=some (.slice am nm mcap)/\wx.cell? ⟨w.heap.size,1,none⟩=some (.slice (some ⟨cb,co,none⟩) xs.length ccap)):=fun wx ad =>
  ⟨(ad.cell (p:=⟨w.heap.size,0,none⟩) (show w.heap.size<W.heap.size by omega)).trans HM.out.1,(ad.cell (p:=⟨w.heap.size,1,none⟩) (show w.heap.size<W.heap.size by omega)).trans HM.out.2⟩
 have J:Hid (∀ wx,Bw W wx->SeesI wx (.slice (some ⟨cb,co,none⟩) xs.length ccap) xs):=fun wx ad=>HX.out.below (a8.out.trans (ad.mono (by omega)))
 clear hx hm hT;go_enter Tryz.func28,Tryz.ntmps28
 go_wp2_with (first
  | (go_at_call 49;rw [<- HW.out];go_must (refine (qRt _ ms _ (aq.out.below a8.out (Nat.le_refl _)) b7).mono ?_);rintro e w1 ⟨rfl,a3⟩;go_must (obtain ⟨m0,Z⟩:=a0.out w1 a3;have ax:=a3.size))
  | (go_at_call 50;go_must (refine (qUv _ xs _ (J.out w1 a3) b6).mono ?_);rintro e w2 ⟨rfl,ar⟩;go_must (have b9:Hid (Bw W w2):=a3.trans (ar.mono ax);clear m0 Z;clear a3 ar)))
 go_loopw [7,8] (fun v7 v8 wr=>∃ (q:Nat) (K:List St),q<=xs.length/\v8=I4 q/\Hid (xBu W xs nm q K v7 wr)) (fun _ v8 _=>xs.length-(intOf v8).toNat)
 case atStart=>exact ⟨0,[],by omega,rfl,rfl,Ss.nil _ _,b9.out⟩
 case round =>
  rename World=>w3
  obtain ⟨q,K,hq,rfl,HG⟩:=hrel;have P:=HG.out.2.2;have M:=P.size;obtain ⟨m0,Z⟩:=a0.out w3 P
  by_cases hlt:q<xs.length
  ·have av:(q:Int)<xs.length:=by omega
   have bb:(xs.length:Int)<=64:=by omega
   have R:=qAa (yPi HT.out hq HG.out.1);have b5:=R.out.len;obtain ⟨vs,I⟩:=HG.out.2.1;have a9:=qAa HG.out.1;have a5:=qAa (J.out w3 P)
   by_cases hne:qAy xs K q q=[]
   ·have HA:=qAa (xBw hne)
    have HN:Hid (qFh xs nm (q+1)=.ok (K++[[]])):=by
     have:=qUl a9.out (by rw [HA.out];unfold qLq;rw [if_pos (show ([]:St).length=0 from rfl)]);rw [HA.out] at this;exact this
    go_wp2_with (first
     | (go_at_call 51;go_must (refine (yZl _ cb co ccap xs q _ K nm W.heap.size _ a5.out ⟨vs,I⟩ HT.out hlt (by omega) R.out.each hne).mono ?_);rintro e Q ⟨rfl,y⟩;go_must (have c:=I.below y (Nat.le_refl _);have n:Bw W Q:=P.trans (y.mono M);have O:=n.size))
     | (at_builtin;go_must (refine wpList_append_own _ rfl (.tmp 37) (.tmp 39) 99 rfl W.heap.size 124 i0 (.slice none 0 0) 1 24 Tryz.underlying99 hi aa ac X rfl (by decide) _ _ _ rfl (c.row.alloc _) ⟨_,0,none⟩ 1 1 [stN] rfl rfl (qKp _ _ (by first|rfl|(simp;done)) _ _) (qMr _ none 0 0 rfl) (by unfold maxLen;omega) (by omega) (by first|omega|(simp;done)|(simp;omega)) ?_);intro Y z f r _;go_must (have b2:Hid (xBu W xs nm (q+1) (K++[[]]) Y z):=⟨HN.out,⟨_,c.push (World.ownsRow_nil _ _ _ _) f r⟩,(n.alloc O _).grown r (by first|omega|(simp;done)|(simp;omega)) (fun j hj=>(c.row.lt j hj).1)⟩;clear f r)))
    go_roundw
    case rel=>exact ⟨q+1,K++[[]],by omega,by go_num,b2.out⟩
    case measure=>simp [intOf];omega
   ·have HA:=qAa (xBn hne);obtain ⟨l,F⟩:∃ l,Hid (atJ xs K q=l):=⟨_,rfl⟩
    have aw:Hid (Made8 nm l):=by rw [<- F.out,HA.out];exact qHq (qJp hne R.out.cm) q _
    have h8:=aw.out.1;have ag:=qAa (HT.out.right hlt);obtain ⟨hd,au⟩:∃ hd,Hid (qQa xs K l q=hd):=⟨_,rfl⟩;obtain ⟨E,a7⟩:∃ E,Hid (qEc nm (nth xs q) l hd=E):=⟨_,rfl⟩
    have ae:Hid (qLq xs nm K l q=E):=by show _=_;unfold qLq;rw [if_neg (by omega),au.out];exact a7.out
    have a2:=qAa (R.out.head hlt hne);obtain ⟨⟨op,d,a,b,bd⟩,HI⟩:∃ i,Hid (nth xs q=i):=⟨_,rfl⟩
    by_cases h20:op=20
    ·subst h20;have ak:=a2.out (by rw [HI.out]);rw [HI.out] at ak;simp only at ak;obtain ⟨b4,b8,ap⟩:=ak
     have be:1<=d/\d<=63:=by omega
     obtain ⟨h,hh⟩:∃ h:Nat,(q:Int)-d=h:=⟨((q:Int)-d).toNat,by omega⟩
     have bf:(h:Int)<q+1:=by omega
     have af:Hid ((K++[l]).length=q+1):=by show _=_;simp [b5]
     have ab:Hid ((K++[l]).getD h []=hd):=by
      show _=_
      rw [<- au.out];unfold qQa;rw [HI.out,if_pos rfl];simp only;rw [hh,Int.toNat_natCast]
     have a1:Hid (hd.length=8):=by
      show _=_
      rw [<- ab.out,qJs (by omega)];have:=ap;rw [hh,Int.toNat_natCast] at this;exact this
     clear b4 b8 ap a2
     by_cases hE:E=0
     ·subst hE
      go_wp2_with (first
       | (go_at_call 51;go_must (refine (qTb _ cb co ccap xs q _ K nm W.heap.size _ a5.out ⟨vs,I⟩ HT.out hlt (by omega) R.out.each R.out.cm hne).mono ?_);rintro e Q ⟨u,rfl,o,y⟩;go_must (rw [<- HA.out,F.out] at o;have c:=I.below y (Nat.le_refl _);have n:Bw W Q:=P.trans (y.mono M);have O:=n.size;have D:Q.ownsRow W.heap.size 153 4 u l.length (qAo l):=(by rw [h8];exact qCe o M);obtain ⟨ug,uc,rfl,ai,al,ah⟩:=qEm o;clear o y))
       | (at_builtin;go_must (refine wpList_append_own _ rfl (.tmp 37) (.tmp 39) 99 rfl W.heap.size 124 i0 (.slice none 0 0) 1 24 Tryz.underlying99 hi aa ac X rfl (by decide) _ _ _ rfl (c.row.alloc _) ⟨_,0,none⟩ 1 1 [.slice (some ⟨ug,0,none⟩) 8 uc] rfl rfl (qKp _ _ (by first|rfl|(simp;done)) _ _) (qMr _ _ _ _ rfl) (by unfold maxLen;omega) (by omega) (by first|omega|(simp;done)|(simp;omega)) ?_);intro Y z f r _;go_must (have k:=c.push D f r;have U:=qAa k.last;have L:Hid (Ss W.heap.size z Y (K++[l])):=⟨_,k⟩;have g:Bw W z:=(n.alloc O _).grown r (by first|omega|(simp;done)|(simp;omega)) (fun j hj=>(c.row.lt j hj).1);clear m0 Z;obtain ⟨m0,Z⟩:=a0.out z g;obtain ⟨G,aj,an⟩:=qNu (J.out z g) hlt;rw [HI.out] at G;obtain ⟨c0,c1,c2,c3,c4⟩:=G;simp only at c0 c1 c2 c3 c4;have V:=g.size;clear f r c D k;obtain ⟨g6,c6,a6,b3,a4,ay,ao,S,B,_⟩:=L.out.get (i:=h) (by rw [af.out];omega);rw [af.out] at a4 ao;rw [ab.out,a1.out] at S;rw [ab.out,a1.out] at B;subst a4))
       | (go_at_call 52;go_must (refine (qSx (s:=l) (head:=hd) (J.out z g) hlt (by have:=qGc U.out;exact this) h8 ag.out (fun _=>⟨by have:=B;exact this,a1.out⟩) a7).mono ?_);rintro e T ⟨rfl,A⟩;go_must (have N:Hid (Ss W.heap.size T (.slice (some ⟨g6,0,none⟩) (q+1) c6) (K++[l])/\Bw W T):=⟨L.out.below A (Nat.le_refl _),g.trans (A.mono V)⟩;clear A)))
      go_roundw
      case rel=>exact ⟨q+1,K++[l],by omega,by go_num,by have:=qUl a9.out (by rw [F.out];exact ae.out);rw [F.out] at this;exact this,N.out.1,N.out.2⟩
      case measure=>simp [intOf];omega
     ·have b1:(E != 0)=true:=by simpa using hE
      go_wp2_with (first
       | (go_at_call 51;go_must (refine (qTb _ cb co ccap xs q _ K nm W.heap.size _ a5.out ⟨vs,I⟩ HT.out hlt (by omega) R.out.each R.out.cm hne).mono ?_);rintro e Q ⟨u,rfl,o,y⟩;go_must (rw [<- HA.out,F.out] at o;have c:=I.below y (Nat.le_refl _);have n:Bw W Q:=P.trans (y.mono M);have O:=n.size;have D:Q.ownsRow W.heap.size 153 4 u l.length (qAo l):=(by rw [h8];exact qCe o M);obtain ⟨ug,uc,rfl,ai,al,ah⟩:=qEm o;clear o y))
       | (at_builtin;go_must (refine wpList_append_own _ rfl (.tmp 37) (.tmp 39) 99 rfl W.heap.size 124 i0 (.slice none 0 0) 1 24 Tryz.underlying99 hi aa ac X rfl (by decide) _ _ _ rfl (c.row.alloc _) ⟨_,0,none⟩ 1 1 [.slice (some ⟨ug,0,none⟩) 8 uc] rfl rfl (qKp _ _ (by first|rfl|(simp;done)) _ _) (qMr _ _ _ _ rfl) (by unfold maxLen;omega) (by omega) (by first|omega|(simp;done)|(simp;omega)) ?_);intro Y z f r _;go_must (have k:=c.push D f r;have U:=qAa k.last;have L:Hid (Ss W.heap.size z Y (K++[l])):=⟨_,k⟩;have g:Bw W z:=(n.alloc O _).grown r (by first|omega|(simp;done)|(simp;omega)) (fun j hj=>(c.row.lt j hj).1);clear m0 Z;obtain ⟨m0,Z⟩:=a0.out z g;obtain ⟨G,aj,an⟩:=qNu (J.out z g) hlt;rw [HI.out] at G;obtain ⟨c0,c1,c2,c3,c4⟩:=G;simp only at c0 c1 c2 c3 c4;have V:=g.size;clear f r c D k;obtain ⟨g6,c6,a6,b3,a4,ay,ao,S,B,_⟩:=L.out.get (i:=h) (by rw [af.out];omega);rw [af.out] at a4 ao;rw [ab.out,a1.out] at S;rw [ab.out,a1.out] at B;subst a4))
       | (go_at_call 52;go_must (refine (qSx (s:=l) (head:=hd) (J.out z g) hlt (by have:=qGc U.out;exact this) h8 ag.out (fun _=>⟨by have:=B;exact this,a1.out⟩) a7).mono ?_);rintro e T ⟨rfl,A⟩;go_must (have N:Hid (Ss W.heap.size T (.slice (some ⟨g6,0,none⟩) (q+1) c6) (K++[l])/\Bw W T):=⟨L.out.below A (Nat.le_refl _),g.trans (A.mono V)⟩;clear A)))
      go_ret3
      exact .inl ⟨q,E,yDu a9.out (by rw [F.out];exact ae.out) hE hlt,rfl,a8.out.trans (N.out.2.mono (by omega))⟩
    ·have ba:(op==20)=false:=by simpa using h20
     clear a2
     by_cases hE:E=0
     ·subst hE
      go_wp2_with (first
       | (go_at_call 51;go_must (refine (qTb _ cb co ccap xs q _ K nm W.heap.size _ a5.out ⟨vs,I⟩ HT.out hlt (by omega) R.out.each R.out.cm hne).mono ?_);rintro e Q ⟨u,rfl,o,y⟩;go_must (rw [<- HA.out,F.out] at o;have c:=I.below y (Nat.le_refl _);have n:Bw W Q:=P.trans (y.mono M);have O:=n.size;have D:Q.ownsRow W.heap.size 153 4 u l.length (qAo l):=(by rw [h8];exact qCe o M);obtain ⟨ug,uc,rfl,ai,al,ah⟩:=qEm o;clear o y))
       | (at_builtin;go_must (refine wpList_append_own _ rfl (.tmp 37) (.tmp 39) 99 rfl W.heap.size 124 i0 (.slice none 0 0) 1 24 Tryz.underlying99 hi aa ac X rfl (by decide) _ _ _ rfl (c.row.alloc _) ⟨_,0,none⟩ 1 1 [.slice (some ⟨ug,0,none⟩) 8 uc] rfl rfl (qKp _ _ (by first|rfl|(simp;done)) _ _) (qMr _ _ _ _ rfl) (by unfold maxLen;omega) (by omega) (by first|omega|(simp;done)|(simp;omega)) ?_);intro Y z f r _;go_must (have k:=c.push D f r;have U:=qAa k.last;have L:Hid (Ss W.heap.size z Y (K++[l])):=⟨_,k⟩;have g:Bw W z:=(n.alloc O _).grown r (by first|omega|(simp;done)|(simp;omega)) (fun j hj=>(c.row.lt j hj).1);clear m0 Z;obtain ⟨m0,Z⟩:=a0.out z g;obtain ⟨G,aj,an⟩:=qNu (J.out z g) hlt;rw [HI.out] at G;obtain ⟨c0,c1,c2,c3,c4⟩:=G;simp only at c0 c1 c2 c3 c4;have V:=g.size;clear f r c D k))
       | (go_at_call 52;go_must (refine (qSx (s:=l) (head:=hd) (J.out z g) hlt (by have:=qGc U.out;exact this) h8 ag.out (fun h=>absurd (by rw [HI.out] at h;exact h) h20) a7).mono ?_);rintro e T ⟨rfl,A⟩;go_must (have N:Hid (Ss W.heap.size T Y (K++[l])/\Bw W T):=⟨L.out.below A (Nat.le_refl _),g.trans (A.mono V)⟩;clear A)))
      go_roundw
      case rel=>exact ⟨q+1,K++[l],by omega,by go_num,by have:=qUl a9.out (by rw [F.out];exact ae.out);rw [F.out] at this;exact this,N.out.1,N.out.2⟩
      case measure=>simp [intOf];omega
     ·have b1:(E != 0)=true:=by simpa using hE
      go_wp2_with (first
       | (go_at_call 51;go_must (refine (qTb _ cb co ccap xs q _ K nm W.heap.size _ a5.out ⟨vs,I⟩ HT.out hlt (by omega) R.out.each R.out.cm hne).mono ?_);rintro e Q ⟨u,rfl,o,y⟩;go_must (rw [<- HA.out,F.out] at o;have c:=I.below y (Nat.le_refl _);have n:Bw W Q:=P.trans (y.mono M);have O:=n.size;have D:Q.ownsRow W.heap.size 153 4 u l.length (qAo l):=(by rw [h8];exact qCe o M);obtain ⟨ug,uc,rfl,ai,al,ah⟩:=qEm o;clear o y))
       | (at_builtin;go_must (refine wpList_append_own _ rfl (.tmp 37) (.tmp 39) 99 rfl W.heap.size 124 i0 (.slice none 0 0) 1 24 Tryz.underlying99 hi aa ac X rfl (by decide) _ _ _ rfl (c.row.alloc _) ⟨_,0,none⟩ 1 1 [.slice (some ⟨ug,0,none⟩) 8 uc] rfl rfl (qKp _ _ (by first|rfl|(simp;done)) _ _) (qMr _ _ _ _ rfl) (by unfold maxLen;omega) (by omega) (by first|omega|(simp;done)|(simp;omega)) ?_);intro Y z f r _;go_must (have k:=c.push D f r;have U:=qAa k.last;have L:Hid (Ss W.heap.size z Y (K++[l])):=⟨_,k⟩;have g:Bw W z:=(n.alloc O _).grown r (by first|omega|(simp;done)|(simp;omega)) (fun j hj=>(c.row.lt j hj).1);clear m0 Z;obtain ⟨m0,Z⟩:=a0.out z g;obtain ⟨G,aj,an⟩:=qNu (J.out z g) hlt;rw [HI.out] at G;obtain ⟨c0,c1,c2,c3,c4⟩:=G;simp only at c0 c1 c2 c3 c4;have V:=g.size;clear f r c D k))
       | (go_at_call 52;go_must (refine (qSx (s:=l) (head:=hd) (J.out z g) hlt (by have:=qGc U.out;exact this) h8 ag.out (fun h=>absurd (by rw [HI.out] at h;exact h) h20) a7).mono ?_);rintro e T ⟨rfl,A⟩;go_must (have N:Hid (Ss W.heap.size T Y (K++[l])/\Bw W T):=⟨L.out.below A (Nat.le_refl _),g.trans (A.mono V)⟩;clear A)))
      go_ret3
      exact .inl ⟨q,E,yDu a9.out (by rw [F.out];exact ae.out) hE hlt,rfl,a8.out.trans (N.out.2.mono (by omega))⟩
  ·have av:¬ (q:Int)<xs.length:=by omega
   have HE:Hid (q=xs.length):=by show _=_;omega
   go_wp2
   go_ret3
   have h1:=HG.out.1;rw [HE.out] at h1;exact .inr ⟨K,h1,u7,rfl,HG.out.2.1.base (b:=w.heap.size) (by omega),a8.out.trans (P.mono (by omega))⟩
theorem yWt (vm i:Value)(ms:List Int)(w:World)(hm:Sees .i64 w vm ms)(b:Hid (qGa ms=false)) :
  Cl 28 #[.agg #[vm,i]] w fun e f=>e=.returned (.tuple #[stN,I4 0,I4 2])/\Bw w f:=by
 have g:=qAa hm
 obtain ⟨l,mcap,rfl⟩:∃ a c,vm=.slice a ms.length c:=by obtain ⟨a,c,h,_⟩:=hm;exact ⟨a,c,h⟩
 go_enter Tryz.func28,Tryz.ntmps28
 go_wp2_with (go_at_call 49;go_must (refine (qRt _ ms _ (g.out.below ((Below.refl _ _).alloc (Nat.le_refl _) _) (Nat.le_refl _)) b).mono ?_);rintro e f ⟨rfl,d⟩;go_must (have k:=qAt d;clear d))
 go_ret3
 exact ⟨rfl,k⟩
theorem yWr (vm:Value)(ms:List Int)(i:Value)(xs:List In)(w:World)(hm:Sees .i64 w vm ms)(g:SeesI w i xs)(k:Hid (qGa ms=true)){P E:Int}(D:Hid (qCh xs=(P,E)))(o:E≠0) :
  Cl 28 #[.agg #[vm,i]] w fun e G=>e=.returned (.tuple #[stN,I4 P,I4 E])/\Bw w G:=by
 have A:=qAa hm;have B:=qAa g
 obtain ⟨F,mcap,rfl⟩:∃ a c,vm=.slice a ms.length c:=by obtain ⟨a,c,h,_⟩:=hm;exact ⟨a,c,h⟩
 obtain ⟨r,ccap,rfl⟩:∃ a c,i=.slice a xs.length c:=by obtain ⟨a,c,h,_⟩:=g;exact ⟨a,c,h⟩
 have K:(E != 0)=true:=by simpa using o
 obtain ⟨W,n,d,J⟩:∃ W,Hid (W=w.alloc (Obj.cells #[.slice F ms.length mcap,.slice r xs.length ccap] 25))/\Hid (Bw w W)/\W.heap.size=w.heap.size+1 :=
  ⟨_,rfl,qAa (by go_grown),by simp⟩
 have l:Hid (W.cell? ⟨w.heap.size,1,none⟩=some (.slice r xs.length ccap)):=by
  rw [n.out];show _=_;go_cell
 clear hm g;go_enter Tryz.func28,Tryz.ntmps28
 go_wp2_with (first
  | (go_at_call 49;rw [<- n.out];go_must (refine (qRt _ ms _ (A.out.below d.out (Nat.le_refl _)) k).mono ?_);rintro e L ⟨rfl,b⟩;go_must (have z:=(b.cell (p:=⟨w.heap.size,1,none⟩) (show w.heap.size<W.heap.size by omega)).trans l.out;have y:=b.size;have s:=qAa ((B.out.below d.out).below b)))
  | (go_at_call 50;go_must (refine (qUv _ xs _ s.out D).mono ?_);rintro e I ⟨rfl,f⟩;go_must (have u:Bw W I:=b.trans (f.mono y);clear b f z)))
 go_ret3
 exact ⟨rfl,d.out.trans (u.mono (by omega))⟩
theorem ySz (vm:Value)(ms:List Int)(g:Value)(xs:List In)(w:World)(hm:Sees .i64 w vm ms)(k:SeesI w g xs) :
  Cl 28 #[.agg #[vm,g]] w fun e f=>∃ u,e=.returned (.tuple #[u,I4 (qWv ms xs).2.1,I4 (qWv ms xs).2.2])/\Ss w.heap.size f u (qWv ms xs).1/\Bw w f:=by
 unfold qWv
 cases hmf:qGa ms with
 | false =>
  refine (yWt vm g ms w hm hmf).mono ?_;rintro e f ⟨rfl,d⟩;exact ⟨stN,by simp,by simpa using Ss.nil _ _,d⟩
 | true =>
  rw [if_neg (by simp)]
  by_cases hE:(qCh xs).2=0
  ·rw [if_neg (by simpa using hE)];have l:Taken xs:=check_ok.1 hE;obtain ⟨a,cap,r,B,D,A,s⟩:=id k;obtain ⟨b,off,rfl,z,y⟩:=s (fun e=>by have:=l.pos;rw [e] at this;simp at this);subst r
   obtain ⟨n,mcap,rfl⟩:∃ a c,vm=.slice a ms.length c:=by obtain ⟨a,c,h,_⟩:=hm;exact ⟨a,c,h⟩
   refine (yZq n mcap ms b off cap xs w hm k hmf l).mono ?_;rintro e f (⟨q,E,i,rfl,d⟩|⟨K,i,u,rfl,o,d⟩)
   ·rw [i];exact ⟨stN,rfl,Ss.nil _ _,d⟩
   ·rw [i];exact ⟨u,rfl,o,d⟩
  ·rw [if_pos hE];refine (yWr vm ms g xs w hm k hmf (P:=(qCh xs).1) (E:=(qCh xs).2) rfl hE).mono ?_;rintro e f ⟨rfl,d⟩;exact ⟨stN,rfl,Ss.nil _ _,d⟩
theorem yOr (ms:List Int)(xs:List In):qFq ms xs=(qWv ms xs).2:=by
 unfold qFq qKj qWv
 by_cases hmf:qGa ms=false
 ·rw [if_pos hmf,if_pos hmf]
 ·rw [if_neg hmf,if_neg hmf]
  by_cases hE:(qCh xs).2=0
  ·rw [if_neg (show ¬ qLu xs≠0 from fun h=>h hE),if_neg (show ¬ (qCh xs).2≠0 from fun h=>h hE)]
   rcases qNo (nm:=ms.length) (check_ok.1 hE) xs.length (Nat.le_refl _) with ⟨e,a,b⟩|⟨f,c,a,b,d⟩
   ·rw [a,b]
   ·rw [a,b]
  ·rw [if_pos (show qLu xs≠0 from hE),if_pos (show (qCh xs).2≠0 from hE)]
   rfl
end Go.Proofs.YtmdhljoicnommaaGreat
