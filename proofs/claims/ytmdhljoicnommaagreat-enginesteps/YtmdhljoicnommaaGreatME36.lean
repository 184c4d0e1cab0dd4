/-
  F7RBody
  F7RCross
  F7REnter
  F7RCheck
-/
import Derived.Test.YtmdhljoicnommaaGreatME30
import Derived.Deep.OwnRows
namespace Go.Proofs.YtmdhljoicnommaaGreat
set_option maxHeartbeats 12800000
open Go.RowKit Go.Deep
set_option linter.unusedVariables false
set_option maxRecDepth 20000
theorem yTg {l:List Int}{j:Nat}{n:Int}(h:j<l.length):qGs (l.take (j+1)) n=(qGs (l.take j) n||decide (l.getD j 0=n)):=by
 rw [yGo l j h,Bool.eq_iff_iff,has_iff,Bool.or_eq_true,has_iff,List.mem_append,decide_eq_true_eq]
 simp [eq_comm]
theorem xAy {l:List Int}{j:Nat}{n:Int}(h:j<l.length)(e:l.getD j 0=n):qGs l n=true:=has_iff.2 (e ▸ qQx l j h)
theorem qMk {v:Value}{l:List Int}{n:Int}{w:World}(y:Sees .i64 w v l)(G:l.length<=64){r:Bool}(o:Hid (r=qGs l n)):Cl 120 #[v,I4 n] w fun e A=>e=.returned (.bool r)/\w=A:=by
 obtain ⟨a,cap,rfl,E,hm,k,z,c⟩:=y;have u:Hid (l≠[]->∃ b off,a=some ⟨b,off,none⟩/\b<w.heap.size/\∀ i,i<l.length->w.cell? ⟨b,off+i,none⟩=some (I4 (l.getD i 0))):=c;clear c k z;go_enter Tryz.func120,Tryz.ntmps120;go_wp2
 go_loopw [5] (fun i wr=>∃ j:Nat,j<=l.length/\i=I4 j/\Hid (qGs (l.take j) n=false)/\w=wr) (fun i _=>l.length-(intOf i).toNat)
 case atStart=>exact ⟨0,by omega,rfl,rfl,rfl⟩
 case round =>
  obtain ⟨j,F,rfl,s,rfl⟩:=hrel
  by_cases hjn:j<l.length
  ·obtain ⟨b,off,rfl,D,d⟩:=u.out (fun h=>by rw [h] at hjn;simp at hjn);have c:=d j hjn;clear d;obtain ⟨x,f⟩:∃ x,Hid (l.getD j 0=x):=⟨_,rfl⟩;rw [f.out] at c
   by_cases hx:x=n
   ·subst hx
    have g:Hid (r=true):=by show _=_;rw [o.out];exact xAy hjn f.out
    go_wp2;go_ret;exact ⟨rbF g.out.symm,rfl⟩
   ·have B:(x==n)=false:=by simpa using hx
    go_wp2
    go_roundw
    case rel=>exact ⟨j+1,by omega,by go_num,⟨by show _=_;rw [yTg hjn,s.out,f.out,decide_eq_false hx];rfl,trivial⟩⟩
    case measure=>simp [intOf];omega
  ·obtain rfl:j=l.length:=by omega
   have g:Hid (r=false):=by show _=_;rw [o.out];have:=s.out;rwa [List.take_length] at this
   go_wp2;go_ret;exact ⟨rbF g.out.symm,rfl⟩
theorem yIx (w:World)(a:Addr)(u:Value):w.grownBy (w.setCell a u) (some a.block) :=
 ⟨rfl,rfl,rfl,by rw [nblk_setCell];exact Nat.le_refl _,fun k _ b=>blk_setCell_other _ _ _ _ (fun e=>b (by rw [e]))⟩
theorem yIf {B:Nat}{w Z:World}{n j:Nat}{v:Value}(h:Below B w Z)(b:B<=n):Below B w (Z.setCell ⟨n,j,none⟩ v) :=
 ⟨h.os,h.tape,h.output,by rw [nblk_setCell];exact h.size,fun k a=>(blk_setCell_other _ _ _ _ (by show k≠n;omega)).trans (h.block k a)⟩
structure Bd (w:World) (N:Nat) (V:Nat->Value) (R:Nat->List Int) (wr:World):Prop where
 g:Below w.heap.size w wr
 out:wr.rowIs w.heap.size 22 N V
 own:∀ p,p<N->wr.ownsRow (w.heap.size+1) 3 1 (V p) (R p).length ((R p).map (Value.int .i64))
 two:∀ p q,p<N->q<N->p≠q->(V p).ownBlock=none∨(V p).ownBlock≠(V q).ownBlock
theorem Bd.congr {w wr:World}{N:Nat}{V:Nat->Value}{R a:Nat->List Int}(h:Bd w N V R wr)(e:∀ p,p<N->R p=a p):Bd w N V a wr :=
 ⟨h.g,h.out,fun p b=>by rw [<- e p b];exact h.own p b,h.two⟩
theorem Bd.start (w:World)(N:Nat):Bd w N (fun _=>.slice none 0 0) (fun _=>[]) (w.alloc (.cells (madeCells #[.slice none 0 0] N) 22)) :=
 ⟨(Below.refl _ _).alloc (Nat.le_refl _) _,World.rowIs_made _ _ _ _,fun _ _=>World.ownsRow_nil _ _ _ _,fun _ _ _ _ _=>.inl rfl⟩
theorem Bd.row {w wr c:World}{N:Nat}{V:Nat->Value}{R:Nat->List Int}(h:Bd w N V R wr){p:Nat}(d:p<N){o:Obj}(a:(wr.alloc o).grownBy c (V p).ownBlock):c.rowIs w.heap.size 22 N V:=by
 have b:=h.out.lt;refine h.out.of_block ?_;rw [a.block w.heap.size (by simp;omega) (fun e=>by have:=((h.own p d).lt _ e.symm).1;omega)];exact blk_alloc_lt _ _ _ b
theorem Bd.step {w wr c:World}{N:Nat}{V:Nat->Value}{R:Nat->List Int}(h:Bd w N V R wr){p:Nat}(F:p<N){x:Int}{l:Value}{o:Obj}(z:c.ownsRow (w.heap.size+1) 3 1 l ((R p).length+1) ((R p).map (Value.int .i64)++[I4 x]))(d:(wr.alloc o).grownBy c (V p).ownBlock)(D:l.ownBlock=(V p).ownBlock∨l.ownBlock=some (wr.alloc o).heap.size) :
  Bd w N (fun j=>if j=p then l else V j) (fun j=>if j=p then R p++[x] else R j) (c.setCell ⟨w.heap.size,p,none⟩ l):=by
 have M:=h.g.size;have K:=h.out.lt
 have A:∀ q,q<N->∀ k,(V q).ownBlock=some k->w.heap.size+1<=k/\k<wr.heap.size:=fun q y k G=>(h.own q y).lt k G
 have J:Bw w c:=(h.g.alloc (by omega) o).grown d (by simp;omega) (fun k G=>by have:=A p F k G;omega)
 have E:c.heap[w.heap.size]? = wr.heap[w.heap.size]? := by
  rw [d.block w.heap.size (by simp;omega) (fun e=>by have:=A p F _ e.symm;omega)];exact blk_alloc_lt _ _ _ K
 have s:∀ {v:Value} {n:Nat} {xs:List Value},c.ownsRow (w.heap.size+1) 3 1 v n xs->(c.setCell ⟨w.heap.size,p,none⟩ l).ownsRow (w.heap.size+1) 3 1 v n xs:=fun {v n xs} hv=>by
  refine hv.kept (yIx c _ _) ?_
  cases u:v.ownBlock with
  | none=>exact .inl rfl
  | some k =>
   right
   intro e
   have e:k=w.heap.size:=by injection e
   have:=(hv.lt k u).1
   omega
 have y:∀ q,q<N->q≠p->c.ownsRow (w.heap.size+1) 3 1 (V q) (R q).length ((R q).map (Value.int .i64)):=fun q y I=>((h.own q y).alloc o).kept d (h.two q p y F I)
 refine ⟨yIf J (Nat.le_refl _),(h.out.of_block E).set p l,fun q L=>?_,fun a b B u r=>?_⟩
 ·by_cases e:q=p
  ·subst e;rw [if_pos rfl,if_pos rfl];refine s ?_
   simpa using z
  ·rw [if_neg e,if_neg e];exact s (y q L e)
 ·by_cases e1:a=p
  ·have f:b≠p:=fun f=>r (e1.trans f.symm)
   rw [if_pos e1,if_neg f];subst e1
   rcases D with i|i
   ·rw [i];exact h.two a b B u r
   ·right
    rw [i];intro e;have:=A b u _ e.symm
    simp at this
    omega
  ·rw [if_neg e1]
   by_cases f:b=p
   ·rw [if_pos f];subst f
    rcases D with i|i
    ·rw [i];exact h.two a b B u r
    ·rw [i]
     cases hv:(V a).ownBlock with
     | none=>exact .inl rfl
     | some k =>
      right
      intro e;injection e with e;have:=A a B k hv
      simp at e
      omega
   ·rw [if_neg f];exact h.two a b B u r
theorem Tryz.infoRow:(Tryz.prog.info? 22).map (fun i=>(i.zero,i.size,i.bytes))=some (some (.slice none 0 0),1,24):=by kernel_rfl
theorem yEa {xs:List In}{k:Nat}(a:(nth xs k).op=20)(q:Int):qCl (qBt xs (k+1)) q=if (qBm xs k).h<=q/\q<=k then qCl (qBt xs k) q++[(k:Int)] else qCl (qBt xs k) q:=by
 rw [qBt];unfold lps qCl;rw [if_pos a,List.filter_append,List.map_append]
 by_cases h:(qBm xs k).h<=q/\q<=k
 ·rw [if_pos h,List.filter_cons_of_pos (by exact within_iff.2 h)];rfl
 ·rw [if_neg h,List.filter_cons_of_neg (by rw [show qBk (qBm xs k) q=false from within_no.2 h];simp),List.filter_nil,List.map_nil,List.append_nil]
theorem yFi {xs:List In}{k:Nat}(a:(nth xs k).op≠20)(q:Int):qCl (qBt xs (k+1)) q=qCl (qBt xs k) q:=by
 rw [qBt];unfold lps;rw [if_neg a,List.append_nil]
theorem qWc (ls:List Lp)(q:Int):(qCl ls q).length<=ls.length:=by
 unfold qCl;rw [List.length_map];exact List.length_filter_le _ _
theorem qNg (v:Value)(xs:List In)(w:World)(hs:SeesI w v xs)(D:qFr xs)(hn:xs.length<=64) :
  Cl 78 #[v] w fun e w'=>∃ V,e=.returned (.slice (some ⟨w.heap.size,0,none⟩) xs.length xs.length)/\Bd w xs.length V (fun p=>qCl (qAk xs) p) w':=by
 obtain ⟨i0,hi,T,Z,a0⟩:=info_parts Tryz.infoInt7;have a1:Hid (qFr xs):=D;obtain ⟨a,cap,rfl,hc,hm,R,r⟩:=hs;have HC:Hid (xs≠[]->∃ b off,a=some ⟨b,off,none⟩/\b<w.heap.size/\∀ k,k<xs.length->At w b (off+k*5) (xs.getD k In.nil)):=r;clear r R D;have O:=run_make_row' (P:=Tryz.prog) 159 22 (.slice none 0 0) 24 Tryz.underlying159 Tryz.infoRow rfl .i64 .i64 xs.length (by omega) (by omega);go_enter Tryz.func78,Tryz.ntmps78;go_wp2;clear O
 go_loopw [4] (fun i wr=>∃ (k:Nat) (V:Nat->Value),k<=xs.length/\i=I4 k/\Hid (Bd w xs.length V (fun p=>qCl (qBt xs k) p) wr)) (fun i _=>xs.length-(intOf i).toNat)
 case atStart=>exact ⟨0,fun _=>.slice none 0 0,by omega,rfl,Bd.start w xs.length⟩
 case round =>
  rename World=>w0
  obtain ⟨k,V,hk,rfl,u⟩:=hrel;have hsz:=u.out.g.size
  by_cases hlt:k<xs.length
  ·obtain ⟨b,off,rfl,hb,F⟩:=HC.out (fun h=>by rw [h] at hlt;simp at hlt);obtain ⟨K,I,J,M,N⟩:=(F k hlt).below u.out.g hb
   have ac:b<w0.heap.size:=by omega
   clear F;obtain ⟨⟨op,d,a,bb,X⟩,A⟩:∃ i,Hid (nth xs k=i):=⟨_,rfl⟩;have E:xs.getD k In.nil=⟨op,d,a,bb,X⟩:=A.out;rw [E] at K I J M N;clear E;simp only at K I J M N
   by_cases h20:op=20
   ·subst h20
    have s:Hid ((nth xs k).op=20):=by show _=_;rw [A.out]
    obtain ⟨k',_,_,B,U,a2,_⟩:=qKr a1.out (l:=qBm xs k) (loopsU_mem.2 ⟨k,hlt,s.out,rfl⟩)
    have Y:(qBm xs k).h=k-d/\0<=(k:Int)-d/\(k:Int)-d<k:=by
     have ek:k'=k:=by have:=congrArg Lp.t B;simp [qBm] at this;omega
     rw [ek,A.out] at B
     have e1:(qBm xs k).h=k-d:=by rw [B]
     have e2:(qBm xs k).t=k:=rfl
     omega
    clear B U a2;have HH:Hid ((qBm xs k).h=k-d):=Y.1;obtain ⟨_,aa,ae⟩:=Y;go_wp2
    go_loopw [5] (fun i wr=>∃ (p:Nat) (V:Nat->Value),(k:Int)-d<=p/\p<=k+1/\i=I4 p/\Hid (Bd w xs.length V (fun q=>if (k:Int)-d<=q/\q<p then qCl (qBt xs k) q++[(k:Int)] else qCl (qBt xs k) q) wr)) (fun i _=>k+1-(intOf i).toNat)
    case atStart =>
     refine ⟨((k:Int)-d).toNat,V,by omega,by omega,by rw [show ((((k:Int)-d).toNat:Nat):Int)=(k:Int)-d by omega],u.out.congr fun p hp=>?_⟩;rw [if_neg (by omega)]
    case round =>
     clear K I J M N;obtain ⟨p,V,af,ab,rfl,n⟩:=hrel
     by_cases hpk:p<=k
     ·have Q:=n.out.out.cell (i:=p) (by omega);have hfz:=n.out.out.frozen p;have a8:=n.out.out.lt;obtain ⟨L,G⟩:∃ L,Hid ((if (k:Int)-d<=p/\p<p then qCl (qBt xs k) p++[(k:Int)] else qCl (qBt xs k) p)=L):=⟨_,rfl⟩;have y:=n.out.own p (by omega);rw [G.out] at y
      have ad:L.length<=64:=by
       have e:=G.out;rw [if_neg (by omega)] at e;rw [<- e];have:=qWc (qBt xs k) p;have:=qQt xs k
       omega
      have a7:=n.out.g.size
      go_wp2_with (at_builtin;go_must (refine wpList_append_own_at _ rfl _ _ 22 rfl (w.heap.size+1) 3 i0 (I4 0) 1 8 Tryz.underlying22 hi T Z a0 rfl (by decide) _ _ _ rfl (y.alloc _) ⟨_,0,none⟩ 1 1 [I4 k] rfl rfl (cell_one_new _ _ _) (yTh _ _) (by unfold maxLen;omega) (by omega) (by simp;omega) ?_);intro v' w1 c f _ z;have HS:Hid _:=n.out.step (p:=p) (x:=k) (by omega) (by simp only [G.out];exact c) f z;obtain ⟨g1,a6,ev,_⟩:=yUp c (by omega);subst ev;have o:=n.out.row (by omega) f;have a3:=o.cell (i:=p) (by omega);have a9:=o.frozen p;have a5:=o.lt;clear c f z o Q hfz)
      go_roundw
      case rel =>
       refine ⟨p+1,_,by omega,by omega,by go_num,HS.out.congr fun q S=>?_⟩
       by_cases e:q=p
       ·subst e;rw [if_pos rfl,if_neg (by omega),if_pos (by omega)]
       ·rw [if_neg e]
        by_cases h1:(k:Int)-d<=q/\(q:Int)<p
        ·rw [if_pos (by omega),if_pos (by omega)]
        ·rw [if_neg (by omega),if_neg (by omega)]
      case measure=>simp [intOf];omega
     ·go_wp2
      go_roundw
      case rel =>
       refine ⟨k+1,_,by omega,by go_num,n.out.congr fun q S=>?_⟩;rw [yEa s.out,HH.out]
       by_cases h1:(k:Int)-d<=q/\(q:Int)<=k
       ·rw [if_pos h1,if_pos (by omega)]
       ·rw [if_neg h1,if_neg (by omega)]
      case measure=>simp [intOf];omega
   ·have a4:(op != 20)=true:=by simpa using h20
    have s:Hid ((nth xs k).op≠20):=by show _≠_;rw [A.out];exact h20
    go_wp2
    go_roundw
    case rel=>exact ⟨k+1,V,by omega,by go_num,u.out.congr fun q S=>(yFi s.out q).symm⟩
    case measure=>simp [intOf];omega
  ·obtain rfl:k=xs.length:=by omega
   go_wp2;go_ret;exact ⟨V,rfl,u.out⟩
structure SeesB (w:World) (B N:Nat) (V:Nat->Value) (rows:List (List Int)):Prop where
 out:w.rowIs B 22 N V
 row:∀ p,p<N->Sees .i64 w (V p) (row rows p)
 len:∀ p,p<N->(Go.Proofs.YtmdhljoicnommaaGreat.row rows p).length<=64
theorem SeesB.below {w c:World}{B N:Nat}{V:Nat->Value}{a:List (List Int)}(h:SeesB w B N V a)(b:Bw w c):SeesB c B N V a :=
 ⟨h.out.of_block (b.block B h.out.lt),fun p d=>(h.row p d).below b (Nat.le_refl _),h.len⟩
theorem xBo {xs:List In}{n:Nat}(d:n<=64)(q:Int):∀ x∈qCl (qBt xs n) q,(Lit.int .i64 x).wf=true:=fun x b=>by
 obtain ⟨l,a,_,rfl⟩:=around_mem.1 b;obtain ⟨k,c,_,rfl⟩:=loopsU_mem.1 a;refine WalkArith.wf_i64 ?_;simp only [qBm]
 omega
theorem Bd.sees {w wr:World}{V:Nat->Value}{xs:List In}(b:xs.length<=64)(h:Bd w xs.length V (fun p=>qCl (qAk xs) p) wr):SeesB wr w.heap.size xs.length V (qBc xs):=by
 refine ⟨h.out,fun p a=>?_,fun p a=>?_⟩
 ·rw [qBc,qJj a];exact Sees.own (h.own p a) (xBo b p)
 ·rw [qBc,qJj a];have c:=qWc (qBt xs xs.length) p;have d:=qQt xs xs.length
  omega
theorem qNd (v:Value)(xs:List In)(w:World)(hs:SeesI w v xs)(hn:xs.length<=64)(B:Nat)(V:Nat->Value)(c:List (List Int))(L:SeesB w B xs.length V c){R:Option Int}(hR:Hid (R=qHj (first (qFu xs c) xs.length))) :
  Cl 79 #[v,.slice (some ⟨B,0,none⟩) xs.length xs.length] w fun e w'=>e=.returned (qIi R)/\w=w':=by
 have P:Hid (SeesB w B xs.length V c):=L;have a0:=L.out.lt;obtain ⟨a,cap,rfl,hc,hm,X,s⟩:=hs;have HC:Hid (xs≠[]->∃ b off,a=some ⟨b,off,none⟩/\b<w.heap.size/\∀ k,k<xs.length->At w b (off+k*5) (xs.getD k In.nil)):=s;clear s X L;go_enter Tryz.func79,Tryz.ntmps79;go_wp2
 go_loopw [7] (fun i wr=>∃ l:Nat,l<=xs.length/\i=I4 l/\Hid (∀ j,j<l->qFu xs c j=false)/\w=wr) (fun i _=>xs.length-(intOf i).toNat)
 case atStart=>exact ⟨0,by omega,rfl,fun j D=>by omega,rfl⟩
 case round =>
  obtain ⟨l,hl,rfl,O,rfl⟩:=hrel
  by_cases hlt:l<xs.length
  ·obtain ⟨b,off,rfl,L,I⟩:=HC.out (fun h=>by rw [h] at hlt;simp at hlt);have HA:Hid (∀ k,k<xs.length->At w b (off+k*5) (xs.getD k In.nil)):=I;obtain ⟨Z,_,_,_,_⟩:=I l hlt;clear I HC;obtain ⟨op,Q⟩:∃ op,Hid ((nth xs l).op=op):=⟨_,rfl⟩
   replace Z:w.cell? ⟨b,off+l*5,none⟩=some (I4 op):=by rw [<- Q.out];exact Z
   by_cases h20:op=20
   ·subst h20
    have Y:Hid (qFu xs c l=(List.range l).any (qMd xs c l)):=by show _=_;unfold qFu;rw [Q.out];rfl
    go_wp2
    go_loopw [8] (fun i wr=>∃ m:Nat,m<=l/\i=I4 m/\Hid (∀ j,j<m->qMd xs c l j=false)/\w=wr) (fun i _=>l-(intOf i).toNat)
    case atStart=>exact ⟨0,by omega,rfl,fun j D=>by omega,rfl⟩
    case round =>
     obtain ⟨m,a6,rfl,M,rfl⟩:=hrel
     by_cases hmlt:m<l
     ·obtain ⟨d0,_,_,_,_⟩:=HA.out m (by omega);obtain ⟨G,F⟩:∃ G,Hid ((nth xs m).op=G):=⟨_,rfl⟩
      replace d0:w.cell? ⟨b,off+m*5,none⟩=some (I4 G):=by rw [<- F.out];exact d0
      by_cases hm20:G=20
      ·subst hm20
       have E:Hid (qMd xs c l m=(decide (0<qNx c m l xs.length) && !qQy c m l xs.length)):=by show _=_;unfold qMd;rw [F.out];rfl
       go_wp2
       go_loopw [11,9,10] (fun i bo al wr=>∃ (p:Nat) (C:Int) (A:Bool),p<=xs.length/\i=I4 p/\bo=I4 C/\al=.bool A/\Hid (C=qNx c m l p/\A=qQy c m l p)/\0<=C/\C<=p/\w=wr) (fun i _ _ _=>xs.length-(intOf i).toNat)
       case atStart=>exact ⟨0,0,true,by omega,rfl,rfl,rfl,⟨rfl,rfl⟩,by omega,by omega,rfl⟩
       case round =>
        obtain ⟨p,C,A,hp,rfl,rfl,rfl,u,a2,a3,rfl⟩:=hrel
        by_cases hplt:p<xs.length
        ·have a1:=P.out.out.cell (i:=p) hplt;obtain ⟨z,K⟩:∃ z,Hid (row c p=z):=⟨_,rfl⟩
         have g:Hid (Sees .i64 w (V p) z):=by rw [<- K.out];exact P.out.row p hplt
         have f:Hid (z.length<=64):=by rw [<- K.out];exact P.out.len p hplt
         obtain ⟨T,d⟩:∃ r,Hid (r=qGs z m):=⟨_,rfl⟩;obtain ⟨S,o⟩:∃ r,Hid (r=qGs z l):=⟨_,rfl⟩
         have y:Hid (qNx c m l (p+1)=C+(if T&&S then 1 else 0)/\qQy c m l (p+1)=(A && !(T && !S))):=by
          show _/\_
          rw [qNx,qQy,u.out.1,u.out.2,K.out,d.out,o.out];exact ⟨rfl,rfl⟩
         cases T
         ·go_wp2_with (go_at_call 120;go_must (refine (qMk g.out f.out d).mono ?_);rintro e N ⟨rfl,rfl⟩)
          go_roundw
          case rel=>exact ⟨p+1,C,A,by omega,by go_num,rfl,rfl,⟨by rw [y.out.1];simp,by rw [y.out.2];simp⟩,by omega,by omega,by trivial⟩
          case measure=>simp [intOf];omega
         ·cases S
          ·go_wp2_with (first
            | (go_at_call 120;(have n:=d;clear n);go_must (refine (qMk g.out f.out d).mono ?_);rintro e N ⟨rfl,rfl⟩;go_must (clear d))
            | (go_at_call 120;(have n:=o;clear n);go_must (refine (qMk g.out f.out o).mono ?_);rintro e N ⟨rfl,rfl⟩;go_must (clear o)))
           go_roundw
           case rel=>exact ⟨p+1,C,false,by omega,by go_num,rfl,rfl,⟨by rw [y.out.1];simp,by rw [y.out.2];simp⟩,by omega,by omega,by trivial⟩
           case measure=>simp [intOf];omega
          ·go_wp2_with (first
            | (go_at_call 120;(have n:=d;clear n);go_must (refine (qMk g.out f.out d).mono ?_);rintro e N ⟨rfl,rfl⟩;go_must (clear d))
            | (go_at_call 120;(have n:=o;clear n);go_must (refine (qMk g.out f.out o).mono ?_);rintro e N ⟨rfl,rfl⟩;go_must (clear o)))
           go_roundw
           case rel=>exact ⟨p+1,C+1,A,by omega,by go_num,by go_num,rfl,⟨by rw [y.out.1];simp,by rw [y.out.2];simp⟩,by omega,by omega,by trivial⟩
           case measure=>simp [intOf];omega
        ·obtain rfl:p=xs.length:=by omega
         have J:Hid (qMd xs c l m=(decide (0<C) && !A)):=by show _=_;rw [E.out,u.out.1,u.out.2]
         by_cases hC:0<C
         ·cases A
          ·have U:Hid (R=some (l:Int)):=by
            show _=_
            rw [hR.out,qHn O.out hlt,qHj];rw [Y.out,List.any_eq_true];exact ⟨m,List.mem_range.2 hmlt,by rw [J.out,decide_eq_true hC];rfl⟩
           go_wp2;go_ret2;exact ⟨by rw [U.out];rfl,by trivial⟩
          ·go_wp2
           go_roundw
           case rel=>exact ⟨m+1,by omega,by go_num,fun j D=>by
            by_cases e:j=m
            ·rw [e,J.out];simp
            ·exact M.out j (by omega),by trivial⟩
           case measure=>simp [intOf];omega
         ·go_wp2
          go_roundw
          case rel=>exact ⟨m+1,by omega,by go_num,fun j D=>by
           by_cases e:j=m
           ·rw [e,J.out,decide_eq_false hC];rfl
           ·exact M.out j (by omega),by trivial⟩
          case measure=>simp [intOf];omega
      ·have a4:(G != 20)=true:=by simpa using hm20
       have E:Hid (qMd xs c l m=false):=by show _=_;unfold qMd;rw [F.out,decide_eq_false hm20];rfl
       go_wp2
       go_roundw
       case rel=>exact ⟨m+1,by omega,by go_num,fun j D=>by
        by_cases e:j=m
        ·rw [e,E.out]
        ·exact M.out j (by omega),by trivial⟩
       case measure=>simp [intOf];omega
     ·obtain rfl:m=l:=by omega
      go_wp2
      go_roundw
      case rel=>exact ⟨m+1,by omega,by go_num,fun j D=>by
       by_cases e:j=m
       ·rw [e,Y.out,List.any_eq_false];intro x hx;rw [M.out x (List.mem_range.1 hx)]
        simp
       ·exact O.out j (by omega),by trivial⟩
      case measure=>simp [intOf];omega
   ·have a5:(op != 20)=true:=by simpa using h20
    have E:Hid (qFu xs c l=false):=by show _=_;unfold qFu;rw [Q.out,decide_eq_false h20];rfl
    go_wp2
    go_roundw
    case rel=>exact ⟨l+1,by omega,by go_num,fun j D=>by
     by_cases e:j=l
     ·rw [e,E.out]
     ·exact O.out j (by omega),by trivial⟩
    case measure=>simp [intOf];omega
  ·obtain rfl:l=xs.length:=by omega
   have U:Hid (R=none):=by show _=_;rw [hR.out,qEw O.out];rfl
   go_wp2;go_ret2;exact ⟨by rw [U.out];rfl,rfl⟩
theorem qEh {i:In}{op d a b c f:Int}{l o:Bool}(hi:Hid (i=⟨op,d,a,b,c⟩))(g:Hid (f=i.far))(r:Hid (l=i.leads))(k:Hid (o=i.on))(w:World):Cl 38 #[qAl op d a b c] w fun e n=>e=.returned (.tuple #[I4 f,.bool l,.bool o])/\Bw w n:=by
 have h:=yBf op d a b c w;rw [g.out,r.out,k.out,hi.out];exact h
theorem yGa {xs:List In}{q:Nat}(c:q<xs.length){x:Int}(b:x∈row (qBc xs) q):∃ k:Nat,x=k/\k<xs.length/\(nth xs k).op=20:=by
 rw [qBc,qJj c,around_mem] at b;obtain ⟨l,f,_,rfl⟩:=b;obtain ⟨k,d,a,rfl⟩:=loopsU_mem.1 f;exact ⟨k,rfl,d,a⟩
theorem yMm {xs:List In}(h:qFr xs){k:Nat}(b:k<xs.length)(c:(nth xs k).op=20):1<=(nth xs k).d/\(nth xs k).d<=63/\1<=(nth xs k).imm/\(nth xs k).imm<=255:=by
 have a:=(qEl b (h k b)).1
 rcases qBf (nth xs k) with h|h|h|h
 ·rw [h.1] at a;cases a
 ·omega
 ·omega
 ·omega
theorem yAm {a:List Int}{f:Int->Bool}{j:Nat}(h:j<a.length):(a.take (j+1)).any f=((a.take j).any f||f (a.getD j 0)):=by
 rw [yGo a j h,List.any_append]
 simp
theorem xAo {a:List Int}{f:Int->Bool}{j:Nat}(h:j<a.length)(b:f (a.getD j 0)=true):a.any f=true:=by
 rw [List.any_eq_true];exact ⟨_,qQx a j h,b⟩
theorem qQn (v:Value)(xs:List In)(w:World)(hs:SeesI w v xs)(hn:xs.length<=64)(a5:qFr xs)(B:Nat)(V:Nat->Value)(K:SeesB w B xs.length V (qBc xs)){R:Option Int}(hR:Hid (R=qHj (first (qId xs (qBc xs)) xs.length))) :
  Cl 80 #[v,.slice (some ⟨B,0,none⟩) xs.length xs.length] w fun e w'=>e=.returned (qIi R)/\Bw w w':=by
 have G:Hid (SeesB w B xs.length V (qBc xs)):=K;have Z:Hid (qFr xs):=a5;have M:=K.out.lt;obtain ⟨a,cap,rfl,hc,hm,ae,F⟩:=hs;have HC:Hid (xs≠[]->∃ b off,a=some ⟨b,off,none⟩/\b<w.heap.size/\∀ k,k<xs.length->At w b (off+k*5) (xs.getD k In.nil)):=F;clear F ae K a5;go_enter Tryz.func80,Tryz.ntmps80;go_wp2
 go_loopw [7] (fun i wr=>∃ p:Nat,p<=xs.length/\i=I4 p/\Hid (∀ j,j<p->qId xs (qBc xs) j=false)/\Bw w wr) (fun i _=>xs.length-(intOf i).toNat)
 case atStart=>exact ⟨0,by omega,rfl,fun j hj=>by omega,Below.refl _ _⟩
 case round =>
  obtain ⟨p,hp,rfl,O,A⟩:=hrel;have hsz:=A.size
  by_cases hlt:p<xs.length
  ·obtain ⟨b,off,rfl,K,a2⟩:=HC.out (fun h=>by rw [h] at hlt;simp at hlt)
   have HA:Hid (∀ c,Bw w c->∀ k,k<xs.length->At c b (off+k*5) (xs.getD k In.nil)):=fun c y k hk=>(a2 k hk).below y K
   clear a2 HC;obtain ⟨c0,c1,c2,c3,c4⟩:=HA.out _ A p hlt;obtain ⟨⟨op,d,a,bb,ad⟩,U⟩:∃ i,Hid (nth xs p=i):=⟨_,rfl⟩;have X:xs.getD p In.nil=⟨op,d,a,bb,ad⟩:=U.out;rw [X] at c0 c1 c2 c3 c4;clear X;simp only at c0 c1 c2 c3 c4
   have ao:b<wr.heap.size:=by omega
   obtain ⟨f,E⟩:∃ f,Hid (f=(nth xs p).far):=⟨_,rfl⟩;obtain ⟨l,T⟩:∃ l,Hid (l=(nth xs p).leads):=⟨_,rfl⟩;obtain ⟨o,HO⟩:∃ o,Hid (o=(nth xs p).on):=⟨_,rfl⟩;have ac:=qRe (nth xs p);rw [<- E.out] at ac
   have Q:Hid (qId xs (qBc xs) p=(l&&(decide (0<=f)&&(row (qBc xs) ((p:Int)+f).toNat).any (qRx xs (qBc xs) p (p+f))))):=by show _=_;rw [E.out,T.out];rfl
   cases l
   ·go_wp2_with (go_at_call 38;go_must (refine (qEh U E T HO _).mono ?_);rintro e c ⟨rfl,u⟩;go_must (have s:=A.trans (u.mono hsz);clear u))
    go_roundw
    case rel=>exact ⟨p+1,by omega,by go_num,fun j hj=>by
     by_cases e:j=p
     ·rw [e,Q.out];rfl
     ·exact O.out j (by omega),s⟩
    case measure=>simp [intOf];omega
   ·by_cases hf0:f<0
    ·go_wp2_with (go_at_call 38;go_must (refine (qEh U E T HO _).mono ?_);rintro e c ⟨rfl,u⟩;go_must (have s:=A.trans (u.mono hsz);clear u))
     go_roundw
     case rel=>exact ⟨p+1,by omega,by go_num,fun j hj=>by
      by_cases e:j=p
      ·rw [e,Q.out,decide_eq_false (by omega)];rfl
      ·exact O.out j (by omega),s⟩
     case measure=>simp [intOf];omega
    ·have am:(p:Int)+f<xs.length:=by
      have:=(qEl hlt (Z.out p hlt)).2.2.1;rw [<- E.out] at this;exact this
     obtain ⟨q,hq⟩:∃ q:Nat,(p:Int)+f=q:=⟨((p:Int)+f).toNat,by omega⟩
     have D:q<xs.length:=by omega
     obtain ⟨n,P⟩:∃ n,Hid (row (qBc xs) q=n):=⟨_,rfl⟩;obtain ⟨N,HZ⟩:∃ N,Hid (row (qBc xs) p=N):=⟨_,rfl⟩
     have a1:Hid (qId xs (qBc xs) p=n.any (qRx xs (qBc xs) p q)):=by
      show _=_
      rw [Q.out,decide_eq_true (by omega),hq,<- P.out]
      rfl
     have a4:Hid (∀ c,Bw w c->Sees .i64 c (V q) n):=fun c y=>by rw [<- P.out];exact (G.out.row q D).below y (Nat.le_refl _)
     have J:Hid (∀ c,Bw w c->Sees .i64 c (V p) N):=fun c y=>by rw [<- HZ.out];exact (G.out.row p hlt).below y (Nat.le_refl _)
     have ag:Hid (n.length<=64):=by rw [<- P.out];exact G.out.len q D
     have L:Hid (N.length<=64):=by rw [<- HZ.out];exact G.out.len p hlt
     have af:Hid (∀ c,Bw w c->c.cell? ⟨B,q,none⟩=some (V q)/\c.cell? ⟨B,p,none⟩=some (V p)):=fun c y=>by
      rw [y.cell (p:=⟨B,q,none⟩) M,y.cell (p:=⟨B,p,none⟩) M];exact ⟨G.out.out.cell D,G.out.out.cell hlt⟩
     obtain ⟨aq,cq,Y⟩:=(a4.out w (Below.refl _ _)).shape;have au:=ag.out
     have ah:Hid (∀ x∈n,∃ k:Nat,x=k/\k<xs.length/\(nth xs k).op=20):=fun x hx=>by
      rw [<- P.out] at hx;exact yGa D hx
     have ai:0<=f:=by omega
     clear hf0 Q
     go_wp2_with (go_at_call 38;go_must (refine (qEh U E T HO _).mono ?_);rintro e c ⟨rfl,u⟩;go_must (have s:=A.trans (u.mono hsz);clear u))
     go_loopw [11] (fun i wr=>∃ j:Nat,j<=n.length/\i=I4 j/\Hid ((n.take j).any (qRx xs (qBc xs) p q)=false)/\Bw w wr) (fun i _=>n.length-(intOf i).toNat)
     case atStart=>exact ⟨0,by omega,rfl,rfl,s⟩
     case round =>
      clear c0 c1 c2 c3 c4 s;obtain ⟨j,hj,rfl,HJ,g⟩:=hrel;have ak:=g.size;obtain ⟨e0,e1⟩:=af.out _ g
      have ar:B<wr.heap.size:=by omega
      rw [Y] at e0
      by_cases hjn:j<n.length
      ·obtain ⟨ap,al,ev,_,_,_,_,a7⟩:=a4.out _ g;obtain ⟨bq,a8,ea,aj,a6⟩:=a7 (fun h=>by rw [h] at hjn;simp at hjn)
       obtain rfl:aq=some ⟨bq,a8,none⟩:=by rw [Y] at ev;injection ev with e1 _ _;rw [e1,ea]
       have g0:=a6 j hjn;clear ev ea a6 a7;obtain ⟨k,I,a3,a0⟩:=ah.out _ (qQx n j hjn);rw [I] at g0;have HK:Hid (n.getD j 0=(k:Int)):=I;clear I;obtain ⟨_,k1,_,_,_⟩:=HA.out _ g k a3;obtain ⟨z,HD⟩:∃ z,Hid ((nth xs k).d=z):=⟨_,rfl⟩
       replace k1:wr.cell? ⟨b,off+k*5+1,none⟩=some (I4 z):=by rw [<- HD.out];exact k1
       have an:1<=z/\z<=63:=by have:=yMm Z.out a3 a0;rw [HD.out] at this;omega
       clear a0;obtain ⟨r,S⟩:∃ r,Hid (r=qGs N k):=⟨_,rfl⟩
       have HT:Hid ((n.take (j+1)).any (qRx xs (qBc xs) p q)=(!r&&decide ((q:Int)≠k-z))):=by
        show _=_
        rw [yAm hjn,HJ.out,HK.out];unfold qRx;rw [HZ.out,S.out,show ((k:Int)).toNat=k by omega,HD.out]
        rfl
       cases r
       ·by_cases hne:(q:Int)=k-z
        ·have a9:((q:Int) != (k:Int)-z)=false:=by simpa using hne
         have aa:Hid ((q:Int)=k-z):=hne;clear hne
         go_wp2_with (go_at_call 120;go_must (refine (qMk (J.out _ g) L.out S).mono ?_);rintro e c ⟨rfl,rfl⟩)
         go_roundw
         case rel=>exact ⟨j+1,by omega,by go_num,by show _=_;rw [HT.out,decide_eq_false (by have:=aa.out;omega)];rfl,g⟩
         case measure=>simp [intOf];omega
        ·have a9:((q:Int) != (k:Int)-z)=true:=by simpa using hne
         have ab:Hid (R=some (p:Int)):=by
          show _=_
          rw [hR.out,qHn O.out hlt,qHj];rw [a1.out];refine xAo hjn ?_;have y:=HT.out;rw [yAm hjn,HJ.out,Bool.false_or] at y;rw [y,decide_eq_true hne];rfl
         go_wp2_with (go_at_call 120;go_must (refine (qMk (J.out _ g) L.out S).mono ?_);rintro e c ⟨rfl,rfl⟩)
         go_ret2;exact ⟨by rw [ab.out];rfl,g⟩
       ·go_wp2_with (go_at_call 120;go_must (refine (qMk (J.out _ g) L.out S).mono ?_);rintro e c ⟨rfl,rfl⟩)
        go_roundw
        case rel=>exact ⟨j+1,by omega,by go_num,by show _=_;rw [HT.out];rfl,g⟩
        case measure=>simp [intOf];omega
      ·obtain rfl:j=n.length:=by omega
       go_wp2
       go_roundw
       case rel=>exact ⟨p+1,by omega,by go_num,fun i hi=>by
        by_cases e:i=p
        ·rw [e,a1.out];have:=HJ.out;rwa [List.take_length] at this
        ·exact O.out i (by omega),g⟩
       case measure=>simp [intOf];omega
  ·obtain rfl:p=xs.length:=by omega
   have E:Hid (R=none):=by show _=_;rw [hR.out,qEw O.out];rfl
   go_wp2;go_ret2;exact ⟨by rw [E.out];rfl,A⟩
theorem yBg {a:List Int}{j:Nat}(h:j<a.length):a.drop j=a.getD j 0 :: a.drop (j+1):=by
 rw [List.drop_eq_getElem_cons h];simp [List.getD,h]
theorem qYi (v:Value)(xs:List In)(w:World)(hs:SeesI w v xs)(hn:xs.length<=64)(r:qFr xs)(B:Nat)(V:Nat->Value)(n:SeesB w B xs.length V (qBc xs)){R:Int}(hR:Hid (R=qIk xs (qBc xs) xs.length)) :
  Cl 81 #[v,.slice (some ⟨B,0,none⟩) xs.length xs.length] w fun e w'=>e=.returned (I4 R)/\w=w':=by
 have G:Hid (SeesB w B xs.length V (qBc xs)):=n;have F:Hid (qFr xs):=r;have a4:=n.out.lt;obtain ⟨a,cap,rfl,hc,hm,P,f⟩:=hs;have U:Hid (xs≠[]->∃ b off,a=some ⟨b,off,none⟩/\b<w.heap.size/\∀ k,k<xs.length->At w b (off+k*5) (xs.getD k In.nil)):=f;clear f P n r;go_enter Tryz.func81,Tryz.ntmps81;go_wp2
 go_loopw [6,5] (fun i s wr=>∃ (p:Nat) (S:Int),p<=xs.length/\i=I4 p/\s=I4 S/\Hid (S=qIk xs (qBc xs) p)/\0<=S/\S<=65536*p/\w=wr) (fun i _ _=>xs.length-(intOf i).toNat)
 case atStart=>exact ⟨0,0,by omega,rfl,rfl,rfl,by omega,by omega,rfl⟩
 case round =>
  obtain ⟨p,S,hp,rfl,rfl,Q,a7,ad,rfl⟩:=hrel
  by_cases hlt:p<xs.length
  ·obtain ⟨b,off,rfl,n,z⟩:=U.out (fun h=>by rw [h] at hlt;simp at hlt);have HA:Hid (∀ k,k<xs.length->At w b (off+k*5) (xs.getD k In.nil)):=z;clear z U;obtain ⟨c,g⟩:∃ c,Hid (row (qBc xs) p=c):=⟨_,rfl⟩
   have E:Hid (Sees .i64 w (V p) c):=by rw [<- g.out];exact G.out.row p hlt
   have a1:Hid (c.length<=64):=by rw [<- g.out];exact G.out.len p hlt
   have aa:=a1.out;have N:=G.out.out.cell (i:=p) hlt;obtain ⟨aq,cq,y⟩:=E.out.shape;rw [y] at N
   have O:Hid (∀ x∈c,∃ k:Nat,x=k/\k<xs.length/\(nth xs k).op=20):=fun x Y=>by
    rw [<- g.out] at Y;exact yGa hlt Y
   have a5:Hid (1<=qFb xs c 1/\qFb xs c 1<=65536):=by rw [<- g.out];have:=yCs F.out hlt;exact ⟨this.1,this.2.1⟩
   have X:Hid (qIk xs (qBc xs) (p+1)=S+qFb xs c 1):=by show _=_;rw [qIk,Q.out,g.out]
   go_wp2
   go_loopw [8,7] (fun i s wr=>∃ (j:Nat) (t:Int),j<=c.length/\i=I4 j/\s=I4 t/\Hid (qFb xs c 1=qFb xs (c.drop j) t)/\1<=t/\t<=65536/\w=wr) (fun i _ _=>c.length-(intOf i).toNat)
   case atStart=>exact ⟨0,1,by omega,rfl,rfl,rfl,by omega,by omega,rfl⟩
   case round =>
    obtain ⟨j,t,hj,rfl,rfl,L,T,a9,rfl⟩:=hrel
    by_cases hjn:j<c.length
    ·by_cases ht:t<=256
     ·obtain ⟨a8,a6,ev,_,_,_,_,A⟩:=E.out;obtain ⟨bq,J,Z,a2,u⟩:=A (fun h=>by rw [h] at hjn;simp at hjn)
      obtain rfl:aq=some ⟨bq,J,none⟩:=by rw [y] at ev;injection ev with e1 _ _;rw [e1,Z]
      have g0:=u j hjn;clear ev Z u A;obtain ⟨k,l,D,o⟩:=O.out _ (qQx c j hjn);rw [l] at g0;have HK:Hid (c.getD j 0=(k:Int)):=l;clear l;obtain ⟨_,_,_,_,M⟩:=HA.out k D;obtain ⟨d,K⟩:∃ d,Hid ((nth xs k).imm=d):=⟨_,rfl⟩
      replace M:w.cell? ⟨b,off+k*5+4,none⟩=some (I4 d):=by rw [<- K.out];exact M
      have ab:1<=d/\d<=255:=by have:=yMm F.out D o;rw [K.out] at this;omega
      clear o;have a3:0<=t*(d+1)/\t*(d+1)<=256*256:=⟨Int.mul_nonneg (by omega) (by omega),Int.mul_le_mul ht (by omega) (by omega) (by omega)⟩;have ac:=qJi T (show 0<=d by omega)
      have a0:Hid (qFb xs c 1=qFb xs (c.drop (j+1)) (t*(d+1))):=by
       show _=_
       rw [L.out,yBg hjn,qFb,if_pos ht,HK.out,show ((k:Int)).toNat=k by omega,K.out]
      go_wp2
      go_roundw
      case rel=>exact ⟨j+1,t*(d+1),by omega,by go_num,by go_num,a0,by omega,by omega,by trivial⟩
      case measure=>simp [intOf];omega
     ·have I:Hid (qFb xs c 1=t):=by show _=_;rw [L.out,yBg hjn,qFb,if_neg ht]
      go_wp2
      go_roundw
      case rel=>exact ⟨p+1,S+t,by omega,by go_num,by go_num,by show _=_;rw [X.out,I.out],by omega,by omega,by trivial⟩
      case measure=>simp [intOf];omega
    ·obtain rfl:j=c.length:=by omega
     have I:Hid (qFb xs c 1=t):=by show _=_;rw [L.out,List.drop_length];rfl
     go_wp2
     go_roundw
     case rel=>exact ⟨p+1,S+t,by omega,by go_num,by go_num,by show _=_;rw [X.out,I.out],by omega,by omega,by trivial⟩
     case measure=>simp [intOf];omega
  ·obtain rfl:p=xs.length:=by omega
   go_wp2;go_ret;exact ⟨ri (by rw [hR.out,Q.out]),by trivial⟩
theorem qGy {i:In}{op d a b c:Int}{r:Bool}(hi:Hid (i=⟨op,d,a,b,c⟩))(g:Hid (r=i.right))(w:World):Cl 63 #[qAl op d a b c] w fun e f=>e=.returned (.bool r)/\Bw w f:=by
 have h:=qEz op d a b c w;rw [g.out,hi.out];exact h
theorem qUv (v:Value)(xs:List In)(w:World)(hs:SeesI w v xs){P E:Int}(hP:Hid (qCh xs=(P,E))) :
  Cl 50 #[v] w fun e w'=>e=.returned (.tuple #[I4 P,I4 E])/\Bw w w':=by
 have hP:Hid (qPa xs=(P,E)):=by show _=_;rw [yRo];exact hP.out
 have HS:=qVv hs;obtain ⟨a,cap,rfl,hc,hm,ac,a3⟩:=hs;have HC:Hid (xs≠[]->∃ b off,a=some ⟨b,off,none⟩/\b<w.heap.size/\∀ k,k<xs.length->At w b (off+k*5) (xs.getD k In.nil)):=a3;clear a3 ac
 by_cases h0:xs.length=0
 ·have A:Hid (P=0/\E=10):=by have:=hP.out;unfold qPa at this;rw [if_pos h0] at this;injection this with a b;exact ⟨a.symm,b.symm⟩
  rw [h0];go_enter Tryz.func50,Tryz.ntmps50;go_wp2;go_ret2;exact ⟨r2i A.out.1.symm A.out.2.symm,Below.refl _ _⟩
 have ah:((xs.length:Int)==0)=false:=by simp;exact fun h=>h0 (by rw [h];rfl)
 by_cases h64:64<xs.length
 ·have A:Hid (P=0/\E=11):=by have:=hP.out;unfold qPa at this;rw [if_neg h0,if_pos h64] at this;injection this with a b;exact ⟨a.symm,b.symm⟩
  go_enter Tryz.func50,Tryz.ntmps50;go_wp2;go_ret2;exact ⟨r2i A.out.1.symm A.out.2.symm,Below.refl _ _⟩
 have HP:Hid ((P,E)=match first (qEb xs) xs.length with
   | some k=>((k:Int),qIs xs k)
   | none=>match first (qFu xs (qBc xs)) xs.length with
    | some t=>((t:Int),31)
    | none=>match first (qId xs (qBc xs)) xs.length with
     | some p=>((p:Int),31)
     | none=>if 256<qIk xs (qBc xs) xs.length then (0,32) else (0,0)):=by
  have h:=hP.out;unfold qPa at h;rw [if_neg h0,if_neg h64] at h;exact h.symm
 clear hP;obtain ⟨b,off,rfl,hb,aa⟩:=HC.out (fun h=>by rw [h] at h0;simp at h0)
 have HA:Hid (∀ s,Bw w s->∀ k,k<xs.length->At s b (off+k*5) (xs.getD k In.nil)):=fun s Q k hk=>(aa k hk).below Q hb
 clear aa HC;go_enter Tryz.func50,Tryz.ntmps50;go_wp2
 go_loopw [5] (fun i wr=>∃ k:Nat,k<=xs.length/\i=I4 k/\Hid (∀ j,j<k->qEb xs j=false)/\Bw w wr) (fun i _=>xs.length-(intOf i).toNat)
 case atStart=>exact ⟨0,by omega,rfl,fun j hj=>by omega,Below.refl _ _⟩
 case round =>
  obtain ⟨k,hk,rfl,HK,B⟩:=hrel;have hsz:=B.size
  by_cases hlt:k<xs.length
  ·obtain ⟨c0,c1,c2,c3,c4⟩:=HA.out _ B k hlt;obtain ⟨⟨op,d,a,bb,ab⟩,F⟩:∃ i,Hid (nth xs k=i):=⟨_,rfl⟩;have a0:xs.getD k In.nil=⟨op,d,a,bb,ab⟩:=F.out;rw [a0] at c0 c1 c2 c3 c4
   have U:Hid (∀ s,Bw w s->At s b (off+k*5) ⟨op,d,a,bb,ab⟩):=fun s Q=>by rw [<- a0];exact HA.out s Q k hlt
   clear a0;simp only at c0 c1 c2 c3 c4
   have ag:b<wr.heap.size:=by omega
   obtain ⟨r,X⟩:∃ r,Hid (r=(nth xs k).right):=⟨_,rfl⟩;obtain ⟨f,Z⟩:∃ f,Hid (f=(nth xs k).far):=⟨_,rfl⟩;obtain ⟨l,HL⟩:∃ l,Hid (l=(nth xs k).leads):=⟨_,rfl⟩;obtain ⟨o,HO⟩:∃ o,Hid (o=(nth xs k).on):=⟨_,rfl⟩;have ad:=qRe (nth xs k);rw [<- Z.out] at ad
   have a9:l=false->f=0:=by
    intro h
    rcases qBf (nth xs k) with g|g|g|g
    ·rw [Z.out,g.2.1]
    ·rw [HL.out,g.2.2.2.2.1] at h;cases h
    ·rw [HL.out,g.2.2.2.1] at h;cases h
    ·rw [Z.out,g.2.2.1]
   have ae:Hid (l=false->f=0):=a9;clear a9
   have HX:Hid (qIs xs k=if r=false then 12 else if (k:Int)+f<0∨(xs.length:Int)<=k+f then 30 else if o=true/\k+1=xs.length then 36 else 0):=by show _=_;rw [X.out,Z.out,HO.out];rfl
   have HY:Hid (∀ q,qIs xs k=q->q≠0->(k:Int)=P/\q=E):=fun q hq af=>by
    have h:=HP.out;rw [qHn HK.out hlt (by unfold qEb;rw [hq];simpa using af)] at h
    dsimp only at h
    injection h with Q h2;exact ⟨Q.symm,by rw [h2,hq]⟩
   have HZ:Hid (qIs xs k=0->∀ j,j<k+1->qEb xs j=false):=fun hq j hj=>by
    by_cases e:j=k
    ·rw [e];unfold qEb;rw [hq];rfl
    ·exact HK.out j (by omega)
   cases r
   ·have A:Hid ((k:Int)=P/\12=E):=HY.out 12 (by rw [HX.out];rfl) (by decide)
    go_wp2_with (first
     | (go_at_call 63;go_must (refine (qGy F X _).mono ?_);rintro e s ⟨rfl,u⟩;go_must (have c:=B.trans (u.mono hsz);clear u;obtain ⟨d0,K,L,N,J⟩:=U.out s c;clear c0 c1 c2 c3 c4;have M:=c.size;have O:b<s.heap.size:=by omega))
     | (go_at_call 38;go_must (refine (qEh F Z HL HO _).mono ?_);rintro e w2 ⟨rfl,n⟩;go_must (have z:=c.trans (n.mono c.size);clear n d0 K L N J)))
    go_ret2;exact ⟨r2i A.out.1 A.out.2,c⟩
   ·cases l
    ·obtain rfl:f=0:=ae.out rfl
     cases o
     ·have A:Hid (∀ j,j<k+1->qEb xs j=false):=HZ.out (by rw [HX.out];rw [if_neg (by simp),if_neg (by omega),if_neg (by simp)])
      go_wp2_with (first
       | (go_at_call 63;go_must (refine (qGy F X _).mono ?_);rintro e s ⟨rfl,u⟩;go_must (have c:=B.trans (u.mono hsz);clear u;obtain ⟨d0,K,L,N,J⟩:=U.out s c;clear c0 c1 c2 c3 c4;have M:=c.size;have O:b<s.heap.size:=by omega))
       | (go_at_call 38;go_must (refine (qEh F Z HL HO _).mono ?_);rintro e w2 ⟨rfl,n⟩;go_must (have z:=c.trans (n.mono c.size);clear n d0 K L N J)))
      go_roundw
      case rel=>exact ⟨k+1,by omega,by go_num,A,z⟩
      case measure=>simp [intOf];omega
     ·by_cases he:k+1=xs.length
      ·have a7:((k:Int)+1==(xs.length:Int))=true:=by simp;omega
       have A:Hid ((k:Int)=P/\36=E):=HY.out 36 (by rw [HX.out];rw [if_neg (by simp),if_neg (by omega),if_pos ⟨rfl,he⟩]) (by decide)
       go_wp2_with (first
        | (go_at_call 63;go_must (refine (qGy F X _).mono ?_);rintro e s ⟨rfl,u⟩;go_must (have c:=B.trans (u.mono hsz);clear u;obtain ⟨d0,K,L,N,J⟩:=U.out s c;clear c0 c1 c2 c3 c4;have M:=c.size;have O:b<s.heap.size:=by omega))
        | (go_at_call 38;go_must (refine (qEh F Z HL HO _).mono ?_);rintro e w2 ⟨rfl,n⟩;go_must (have z:=c.trans (n.mono c.size);clear n d0 K L N J)))
       go_ret2;exact ⟨r2i A.out.1 A.out.2,z⟩
      ·have a7:((k:Int)+1==(xs.length:Int))=false:=by simp;omega
       have A:Hid (∀ j,j<k+1->qEb xs j=false):=HZ.out (by rw [HX.out];rw [if_neg (by simp),if_neg (by omega),if_neg (by simp;omega)])
       go_wp2_with (first
        | (go_at_call 63;go_must (refine (qGy F X _).mono ?_);rintro e s ⟨rfl,u⟩;go_must (have c:=B.trans (u.mono hsz);clear u;obtain ⟨d0,K,L,N,J⟩:=U.out s c;clear c0 c1 c2 c3 c4;have M:=c.size;have O:b<s.heap.size:=by omega))
        | (go_at_call 38;go_must (refine (qEh F Z HL HO _).mono ?_);rintro e w2 ⟨rfl,n⟩;go_must (have z:=c.trans (n.mono c.size);clear n d0 K L N J)))
       go_roundw
       case rel=>exact ⟨k+1,by omega,by go_num,A,z⟩
       case measure=>simp [intOf];omega
    ·by_cases Q:(k:Int)+f<0
     ·have A:Hid ((k:Int)=P/\30=E):=HY.out 30 (by rw [HX.out];rw [if_neg (by simp),if_pos (.inl Q)]) (by decide)
      go_wp2_with (first
       | (go_at_call 63;go_must (refine (qGy F X _).mono ?_);rintro e s ⟨rfl,u⟩;go_must (have c:=B.trans (u.mono hsz);clear u;obtain ⟨d0,K,L,N,J⟩:=U.out s c;clear c0 c1 c2 c3 c4;have M:=c.size;have O:b<s.heap.size:=by omega))
       | (go_at_call 38;go_must (refine (qEh F Z HL HO _).mono ?_);rintro e w2 ⟨rfl,n⟩;go_must (have z:=c.trans (n.mono c.size);clear n d0 K L N J)))
      go_ret2;exact ⟨r2i A.out.1 A.out.2,z⟩
     ·by_cases h2:(xs.length:Int)<=k+f
      ·have h3:(xs.length:Int)-1<k+f:=by omega
       have A:Hid ((k:Int)=P/\30=E):=HY.out 30 (by rw [HX.out];rw [if_neg (by simp),if_pos (.inr h2)]) (by decide)
       go_wp2_with (first
        | (go_at_call 63;go_must (refine (qGy F X _).mono ?_);rintro e s ⟨rfl,u⟩;go_must (have c:=B.trans (u.mono hsz);clear u;obtain ⟨d0,K,L,N,J⟩:=U.out s c;clear c0 c1 c2 c3 c4;have M:=c.size;have O:b<s.heap.size:=by omega))
        | (go_at_call 38;go_must (refine (qEh F Z HL HO _).mono ?_);rintro e w2 ⟨rfl,n⟩;go_must (have z:=c.trans (n.mono c.size);clear n d0 K L N J)))
       go_ret2;exact ⟨r2i A.out.1 A.out.2,z⟩
      ·have h3:¬ (xs.length:Int)-1<k+f:=by omega
       cases o
       ·have A:Hid (∀ j,j<k+1->qEb xs j=false):=HZ.out (by rw [HX.out];rw [if_neg (by simp),if_neg (by omega),if_neg (by simp)])
        go_wp2_with (first
         | (go_at_call 63;go_must (refine (qGy F X _).mono ?_);rintro e s ⟨rfl,u⟩;go_must (have c:=B.trans (u.mono hsz);clear u;obtain ⟨d0,K,L,N,J⟩:=U.out s c;clear c0 c1 c2 c3 c4;have M:=c.size;have O:b<s.heap.size:=by omega))
         | (go_at_call 38;go_must (refine (qEh F Z HL HO _).mono ?_);rintro e w2 ⟨rfl,n⟩;go_must (have z:=c.trans (n.mono c.size);clear n d0 K L N J)))
        go_roundw
        case rel=>exact ⟨k+1,by omega,by go_num,A,z⟩
        case measure=>simp [intOf];omega
       ·by_cases he:k+1=xs.length
        ·have a7:((k:Int)+1==(xs.length:Int))=true:=by simp;omega
         have A:Hid ((k:Int)=P/\36=E):=HY.out 36 (by rw [HX.out];rw [if_neg (by simp),if_neg (by omega),if_pos ⟨rfl,he⟩]) (by decide)
         go_wp2_with (first
          | (go_at_call 63;go_must (refine (qGy F X _).mono ?_);rintro e s ⟨rfl,u⟩;go_must (have c:=B.trans (u.mono hsz);clear u;obtain ⟨d0,K,L,N,J⟩:=U.out s c;clear c0 c1 c2 c3 c4;have M:=c.size;have O:b<s.heap.size:=by omega))
          | (go_at_call 38;go_must (refine (qEh F Z HL HO _).mono ?_);rintro e w2 ⟨rfl,n⟩;go_must (have z:=c.trans (n.mono c.size);clear n d0 K L N J)))
         go_ret2;exact ⟨r2i A.out.1 A.out.2,z⟩
        ·have a7:((k:Int)+1==(xs.length:Int))=false:=by simp;omega
         have A:Hid (∀ j,j<k+1->qEb xs j=false):=HZ.out (by rw [HX.out];rw [if_neg (by simp),if_neg (by omega),if_neg (by simp;omega)])
         go_wp2_with (first
          | (go_at_call 63;go_must (refine (qGy F X _).mono ?_);rintro e s ⟨rfl,u⟩;go_must (have c:=B.trans (u.mono hsz);clear u;obtain ⟨d0,K,L,N,J⟩:=U.out s c;clear c0 c1 c2 c3 c4;have M:=c.size;have O:b<s.heap.size:=by omega))
          | (go_at_call 38;go_must (refine (qEh F Z HL HO _).mono ?_);rintro e w2 ⟨rfl,n⟩;go_must (have z:=c.trans (n.mono c.size);clear n d0 K L N J)))
         go_roundw
         case rel=>exact ⟨k+1,by omega,by go_num,A,z⟩
         case measure=>simp [intOf];omega
  ·obtain rfl:k=xs.length:=by omega
   have T:Hid (qFr xs):=HK.out
   have a1:Hid ((P,E)=match first (qFu xs (qBc xs)) xs.length with
    | some t=>((t:Int),31)
    | none=>match first (qId xs (qBc xs)) xs.length with
     | some p=>((p:Int),31)
     | none=>if 256<qIk xs (qBc xs) xs.length then (0,32) else (0,0)):=by
    have h:=HP.out;rw [qEw HK.out] at h;exact h
   clear HP;have a4:Hid (SeesI wr (.slice (some ⟨b,off,none⟩) xs.length cap) xs):=HS.out.below B;obtain ⟨R,X⟩:∃ R,Hid (R=first (qFu xs (qBc xs)) xs.length):=⟨_,rfl⟩;rw [<- X.out] at a1
   have a5:Hid (qHj R=qHj (first (qFu xs (qBc xs)) xs.length)):=by show _=_;rw [X.out]
   obtain ⟨I,F⟩:∃ I,Hid (I=first (qId xs (qBc xs)) xs.length):=⟨_,rfl⟩;rw [<- F.out] at a1
   have a0:Hid (qHj I=qHj (first (qId xs (qBc xs)) xs.length)):=by show _=_;rw [F.out]
   obtain ⟨C,a6⟩:∃ C,Hid (C=qIk xs (qBc xs) xs.length):=⟨_,rfl⟩;rw [<- a6.out] at a1
   have y:xs.length<=64:=by omega
   cases R with
   | some t =>
    have HB:Hid (P=(t:Int)/\E=31):=by have h:=a1.out;dsimp only at h;injection h with Q h2;exact ⟨Q,h2⟩
    go_wp2_with (first
     | (go_at_call 78;go_must (refine (qNg _ xs _ a4.out T.out y).mono ?_);rintro e s ⟨V,rfl,D⟩;go_must (have Y:Hid (SeesB s wr.heap.size xs.length V (qBc xs)):=Bd.sees y D;have c:=B.trans (D.g.mono hsz);clear D))
     | (go_at_call 79;go_must (refine (qNd _ xs _ (HS.out.below c) y _ V (qBc xs) Y.out a5).mono ?_);rintro e w2 ⟨he,n⟩;go_must (simp only [qIi,qHj] at he;subst he n)))
    go_ret2;exact ⟨r2i HB.out.1.symm HB.out.2.symm,c⟩
   | none =>
    cases I with
    | some p =>
     have HB:Hid (P=(p:Int)/\E=31):=by have h:=a1.out;dsimp only at h;injection h with Q h2;exact ⟨Q,h2⟩
     go_wp2_with (first
      | (go_at_call 78;go_must (refine (qNg _ xs _ a4.out T.out y).mono ?_);rintro e s ⟨V,rfl,D⟩;go_must (have Y:Hid (SeesB s wr.heap.size xs.length V (qBc xs)):=Bd.sees y D;have c:=B.trans (D.g.mono hsz);clear D))
      | (go_at_call 79;go_must (refine (qNd _ xs _ (HS.out.below c) y _ V (qBc xs) Y.out a5).mono ?_);rintro e w2 ⟨he,n⟩;go_must (simp only [qIi,qHj] at he;subst he n))
      | (go_at_call 80;go_must (refine (qQn _ xs _ (HS.out.below c) y T.out _ V Y.out a0).mono ?_);rintro e w3 ⟨he,G⟩;go_must (simp only [qIi,qHj] at he;subst he;have S:=c.trans (G.mono c.size);have a2:Hid (SeesB w3 wr.heap.size xs.length V (qBc xs)):=SeesB.below Y.out G;clear G)))
     go_ret2;exact ⟨r2i HB.out.1.symm HB.out.2.symm,S⟩
    | none =>
     by_cases hC:256<C
     ·have HB:Hid (P=0/\E=32):=by have h:=a1.out;dsimp only at h;rw [if_pos hC] at h;injection h with Q h2;exact ⟨Q,h2⟩
      go_wp2_with (first
       | (go_at_call 78;go_must (refine (qNg _ xs _ a4.out T.out y).mono ?_);rintro e s ⟨V,rfl,D⟩;go_must (have Y:Hid (SeesB s wr.heap.size xs.length V (qBc xs)):=Bd.sees y D;have c:=B.trans (D.g.mono hsz);clear D))
       | (go_at_call 79;go_must (refine (qNd _ xs _ (HS.out.below c) y _ V (qBc xs) Y.out a5).mono ?_);rintro e w2 ⟨he,n⟩;go_must (simp only [qIi,qHj] at he;subst he n))
       | (go_at_call 80;go_must (refine (qQn _ xs _ (HS.out.below c) y T.out _ V Y.out a0).mono ?_);rintro e w3 ⟨he,G⟩;go_must (simp only [qIi,qHj] at he;subst he;have S:=c.trans (G.mono c.size);have a2:Hid (SeesB w3 wr.heap.size xs.length V (qBc xs)):=SeesB.below Y.out G;clear G))
       | (go_at_call 81;go_must (refine (qYi _ xs _ (HS.out.below S) y T.out _ V a2.out a6).mono ?_);rintro e w4 ⟨he,a8⟩;go_must (subst he a8)))
      go_ret2;exact ⟨r2i HB.out.1.symm HB.out.2.symm,S⟩
     ·have HB:Hid (P=0/\E=0):=by have h:=a1.out;dsimp only at h;rw [if_neg hC] at h;injection h with Q h2;exact ⟨Q,h2⟩
      go_wp2_with (first
       | (go_at_call 78;go_must (refine (qNg _ xs _ a4.out T.out y).mono ?_);rintro e s ⟨V,rfl,D⟩;go_must (have Y:Hid (SeesB s wr.heap.size xs.length V (qBc xs)):=Bd.sees y D;have c:=B.trans (D.g.mono hsz);clear D))
       | (go_at_call 79;go_must (refine (qNd _ xs _ (HS.out.below c) y _ V (qBc xs) Y.out a5).mono ?_);rintro e w2 ⟨he,n⟩;go_must (simp only [qIi,qHj] at he;subst he n))
       | (go_at_call 80;go_must (refine (qQn _ xs _ (HS.out.below c) y T.out _ V Y.out a0).mono ?_);rintro e w3 ⟨he,G⟩;go_must (simp only [qIi,qHj] at he;subst he;have S:=c.trans (G.mono c.size);have a2:Hid (SeesB w3 wr.heap.size xs.length V (qBc xs)):=SeesB.below Y.out G;clear G))
       | (go_at_call 81;go_must (refine (qYi _ xs _ (HS.out.below S) y T.out _ V a2.out a6).mono ?_);rintro e w4 ⟨he,a8⟩;go_must (subst he a8)))
      go_ret2;exact ⟨r2i HB.out.1.symm HB.out.2.symm,S⟩
end Go.Proofs.YtmdhljoicnommaaGreat
