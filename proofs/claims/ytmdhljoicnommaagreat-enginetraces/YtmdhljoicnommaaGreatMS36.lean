/-
  F7RBody
  F7RCross
  F7REnter
  F7RCheck
-/
import Derived.Test.YtmdhljoicnommaaGreatMS30
import Derived.Deep.OwnRows
namespace Go.Proofs.YtmdhljoicnommaaGreat
set_option maxHeartbeats 12800000
open Go.RowKit Go.Deep
set_option linter.unusedVariables false
set_option maxRecDepth 20000
theorem mem_take {l:List Int}{j:Nat}{n:Int}(h:j<l.length):memB (l.take (j+1)) n=(memB (l.take j) n||decide (l.getD j 0=n)):=by
 rw [take_at l j h,Bool.eq_iff_iff,has_iff,Bool.or_eq_true,has_iff,List.mem_append,decide_eq_true_eq]
 simp [eq_comm]
theorem mem_yes {l:List Int}{j:Nat}{n:Int}(h:j<l.length)(e:l.getD j 0=n):memB l n=true:=has_iff.2 (e ▸ getD_mem l j h)
theorem has_as {v:Value}{l:List Int}{n:Int}{w:World}(u:Sees .i64 w v l)(E:l.length<=64){r:Bool}(o:Hid (r=memB l n)):Cl 120 #[v,I4 n] w fun e A=>e=.returned (.bool r)/\w=A:=by
 obtain ⟨a,cap,rfl,F,hm,s,y,c⟩:=u;have z:Hid (l≠[]->∃ b off,a=some ⟨b,off,none⟩/\b<w.heap.size/\∀ i,i<l.length->w.cell? ⟨b,off+i,none⟩=some (I4 (l.getD i 0))):=c;clear c s y;go_enter Tryz.func120,Tryz.ntmps120;go_wp2
 go_loopw [5] (fun i wr=>∃ j:Nat,j<=l.length/\i=I4 j/\Hid (memB (l.take j) n=false)/\w=wr) (fun i _=>l.length-(intOf i).toNat)
 case atStart=>exact ⟨0,by omega,rfl,rfl,rfl⟩
 case round =>
  obtain ⟨j,G,rfl,k,rfl⟩:=hrel
  by_cases hjn:j<l.length
  ·obtain ⟨b,off,rfl,D,d⟩:=z.out (fun h=>by rw [h] at hjn;simp at hjn);have c:=d j hjn;clear d;obtain ⟨x,g⟩:∃ x,Hid (l.getD j 0=x):=⟨_,rfl⟩;rw [g.out] at c
   by_cases hx:x=n
   ·subst hx
    have f:Hid (r=true):=by show _=_;rw [o.out];exact mem_yes hjn g.out
    go_wp2;go_ret;exact ⟨rbF f.out.symm,rfl⟩
   ·have B:(x==n)=false:=by simpa using hx
    go_wp2
    go_roundw
    case rel=>exact ⟨j+1,by omega,by go_num,⟨by show _=_;rw [mem_take hjn,k.out,g.out,decide_eq_false hx];rfl,trivial⟩⟩
    case measure=>simp [intOf];omega
  ·obtain rfl:j=l.length:=by omega
   have f:Hid (r=false):=by show _=_;rw [o.out];have:=k.out;rwa [List.take_length] at this
   go_wp2;go_ret;exact ⟨rbF f.out.symm,rfl⟩
theorem grown_setc (w:World)(a:Addr)(u:Value):w.grownBy (w.setCell a u) (some a.block) :=
 ⟨rfl,rfl,rfl,by rw [nblk_setCell];exact Nat.le_refl _,fun k _ b=>blk_setCell_other _ _ _ _ (fun e=>b (by rw [e]))⟩
theorem below_setc {B:Nat}{w Z:World}{n j:Nat}{v:Value}(h:Below B w Z)(b:B<=n):Below B w (Z.setCell ⟨n,j,none⟩ v) :=
 ⟨h.os,h.tape,h.output,by rw [nblk_setCell];exact h.size,fun k a=>(blk_setCell_other _ _ _ _ (by show k≠n;omega)).trans (h.block k a)⟩
structure Bd (w:World) (N:Nat) (V:Nat->Value) (R:Nat->List Int) (wr:World):Prop where
 g:Below w.heap.size w wr
 out:wr.rowIs w.heap.size 22 N V
 own:∀ p,p<N->wr.ownsRow (w.heap.size+1) 3 1 (V p) (R p).length ((R p).map (Value.int .i64))
 two:∀ p q,p<N->q<N->p≠q->(V p).ownBlock=none∨(V p).ownBlock≠(V q).ownBlock
theorem Bd.congr {w wr:World}{N:Nat}{V:Nat->Value}{R a:Nat->List Int}(h:Bd w N V R wr)(e:∀ p,p<N->R p=a p):Bd w N V a wr :=
 ⟨h.g,h.out,fun p b=>by rw [<- e p b];exact h.own p b,h.two⟩
theorem Bd.start (w:World)(N:Nat):Bd w N (fun _=>.slice none 0 0) (fun _=>[]) (w.alloc (.cells (madeCells #[.slice none 0 0] N) 22)) :=
 ⟨(Below.refl _ _).alloc (Nat.le_refl _) _,World.rowIs_made _ _ _ _,fun _ _=>World.ownsRow_nil _ _ _ _,fun _ _ _ _ _=>.inl rfl⟩
theorem Bd.row {w wr c:World}{N:Nat}{V:Nat->Value}{R:Nat->List Int}(h:Bd w N V R wr){p:Nat}(d:p<N){o:Obj}(a:(wr.alloc o).grownBy c (V p).ownBlock):c.rowIs w.heap.size 22 N V:=by
 have b:=h.out.lt;refine h.out.of_block ?_;rw [a.block w.heap.size (by simp;omega) (fun e=>by have:=((h.own p d).lt _ e.symm).1;omega)];exact blk_alloc_lt _ _ _ b
theorem Bd.step {w wr c:World}{N:Nat}{V:Nat->Value}{R:Nat->List Int}(h:Bd w N V R wr){p:Nat}(G:p<N){x:Int}{l:Value}{o:Obj}(B:c.ownsRow (w.heap.size+1) 3 1 l ((R p).length+1) ((R p).map (Value.int .i64)++[I4 x]))(d:(wr.alloc o).grownBy c (V p).ownBlock)(D:l.ownBlock=(V p).ownBlock∨l.ownBlock=some (wr.alloc o).heap.size) :
  Bd w N (fun j=>if j=p then l else V j) (fun j=>if j=p then R p++[x] else R j) (c.setCell ⟨w.heap.size,p,none⟩ l):=by
 have M:=h.g.size;have L:=h.out.lt
 have z:∀ q,q<N->∀ k,(V q).ownBlock=some k->w.heap.size+1<=k/\k<wr.heap.size:=fun q u k F=>(h.own q u).lt k F
 have J:Bw w c:=(h.g.alloc (by omega) o).grown d (by simp;omega) (fun k F=>by have:=z p G k F;omega)
 have E:c.heap[w.heap.size]? = wr.heap[w.heap.size]? := by
  rw [d.block w.heap.size (by simp;omega) (fun e=>by have:=z p G _ e.symm;omega)];exact blk_alloc_lt _ _ _ L
 have s:∀ {v:Value} {n:Nat} {xs:List Value},c.ownsRow (w.heap.size+1) 3 1 v n xs->(c.setCell ⟨w.heap.size,p,none⟩ l).ownsRow (w.heap.size+1) 3 1 v n xs:=fun {v n xs} hv=>by
  refine hv.kept (grown_setc c _ _) ?_
  cases y:v.ownBlock with
  | none=>exact .inl rfl
  | some k =>
   right
   intro e
   have e:k=w.heap.size:=by injection e
   have:=(hv.lt k y).1
   omega
 have u:∀ q,q<N->q≠p->c.ownsRow (w.heap.size+1) 3 1 (V q) (R q).length ((R q).map (Value.int .i64)):=fun q u I=>((h.own q u).alloc o).kept d (h.two q p u G I)
 refine ⟨below_setc J (Nat.le_refl _),(h.out.of_block E).set p l,fun q K=>?_,fun a b A y r=>?_⟩
 ·by_cases e:q=p
  ·subst e;rw [if_pos rfl,if_pos rfl];refine s ?_
   simpa using B
  ·rw [if_neg e,if_neg e];exact s (u q K e)
 ·by_cases e1:a=p
  ·have f:b≠p:=fun f=>r (e1.trans f.symm)
   rw [if_pos e1,if_neg f];subst e1
   rcases D with i|i
   ·rw [i];exact h.two a b A y r
   ·right
    rw [i];intro e;have:=z b y _ e.symm
    simp at this
    omega
  ·rw [if_neg e1]
   by_cases f:b=p
   ·rw [if_pos f];subst f
    rcases D with i|i
    ·rw [i];exact h.two a b A y r
    ·rw [i]
     cases hv:(V a).ownBlock with
     | none=>exact .inl rfl
     | some k =>
      right
      intro e;injection e with e;have:=z a A k hv
      simp at e
      omega
   ·rw [if_neg f];exact h.two a b A y r
theorem Tryz.infoRow:(Tryz.prog.info? 22).map (fun i=>(i.zero,i.size,i.bytes))=some (some (.slice none 0 0),1,24):=by kernel_rfl
theorem around_loop {xs:List In}{k:Nat}(a:(nth xs k).op=20)(q:Int):aroundL (loopsU xs (k+1)) q=if (lpAt xs k).h<=q/\q<=k then aroundL (loopsU xs k) q++[(k:Int)] else aroundL (loopsU xs k) q:=by
 rw [loopsU];unfold lps aroundL;rw [if_pos a,List.filter_append,List.map_append]
 by_cases h:(lpAt xs k).h<=q/\q<=k
 ·rw [if_pos h,List.filter_cons_of_pos (by exact within_iff.2 h)];rfl
 ·rw [if_neg h,List.filter_cons_of_neg (by rw [show inLpB (lpAt xs k) q=false from within_no.2 h];simp),List.filter_nil,List.map_nil,List.append_nil]
theorem around_same {xs:List In}{k:Nat}(a:(nth xs k).op≠20)(q:Int):aroundL (loopsU xs (k+1)) q=aroundL (loopsU xs k) q:=by
 rw [loopsU];unfold lps;rw [if_neg a,List.append_nil]
theorem around_len (ls:List Lp)(q:Int):(aroundL ls q).length<=ls.length:=by
 unfold aroundL;rw [List.length_map];exact List.length_filter_le _ _
theorem bodies_any (v:Value)(xs:List In)(w:World)(hs:SeesI w v xs)(F:Placed xs)(hn:xs.length<=64) :
  Cl 78 #[v] w fun e w'=>∃ V,e=.returned (.slice (some ⟨w.heap.size,0,none⟩) xs.length xs.length)/\Bd w xs.length V (fun p=>aroundL (loopsL xs) p) w':=by
 obtain ⟨i0,hi,O,S,a0⟩:=info_parts Tryz.infoInt7;have U:Hid (Placed xs):=F;obtain ⟨a,cap,rfl,hc,hm,a2,s⟩:=hs;have HC:Hid (xs≠[]->∃ b off,a=some ⟨b,off,none⟩/\b<w.heap.size/\∀ k,k<xs.length->At w b (off+k*5) (xs.getD k In.nil)):=s;clear s a2 F;have R:=run_make_row' (P:=Tryz.prog) 159 22 (.slice none 0 0) 24 Tryz.underlying159 Tryz.infoRow rfl .i64 .i64 xs.length (by omega) (by omega);go_enter Tryz.func78,Tryz.ntmps78;go_wp2;clear R
 go_loopw [4] (fun i wr=>∃ (k:Nat) (V:Nat->Value),k<=xs.length/\i=I4 k/\Hid (Bd w xs.length V (fun p=>aroundL (loopsU xs k) p) wr)) (fun i _=>xs.length-(intOf i).toNat)
 case atStart=>exact ⟨0,fun _=>.slice none 0 0,by omega,rfl,Bd.start w xs.length⟩
 case round =>
  rename World=>w0
  obtain ⟨k,V,hk,rfl,u⟩:=hrel;have hsz:=u.out.g.size
  by_cases hlt:k<xs.length
  ·obtain ⟨b,off,rfl,hb,D⟩:=HC.out (fun h=>by rw [h] at hlt;simp at hlt);obtain ⟨I,K,J,G,M⟩:=(D k hlt).below u.out.g hb
   have af:b<w0.heap.size:=by omega
   clear D;obtain ⟨⟨op,d,a,bb,T⟩,B⟩:∃ i,Hid (nth xs k=i):=⟨_,rfl⟩;have E:xs.getD k In.nil=⟨op,d,a,bb,T⟩:=B.out;rw [E] at I K J G M;clear E;simp only at I K J G M
   by_cases h20:op=20
   ·subst h20
    have o:Hid ((nth xs k).op=20):=by show _=_;rw [B.out]
    obtain ⟨k',_,_,A,a1,Z,_⟩:=loop_ok U.out (l:=lpAt xs k) (loopsU_mem.2 ⟨k,hlt,o.out,rfl⟩)
    have Y:(lpAt xs k).h=k-d/\0<=(k:Int)-d/\(k:Int)-d<k:=by
     have ek:k'=k:=by have:=congrArg Lp.t A;simp [lpAt] at this;omega
     rw [ek,B.out] at A
     have e1:(lpAt xs k).h=k-d:=by rw [A]
     have e2:(lpAt xs k).t=k:=rfl
     omega
    clear A a1 Z;have HH:Hid ((lpAt xs k).h=k-d):=Y.1;obtain ⟨_,aa,ac⟩:=Y;go_wp2
    go_loopw [5] (fun i wr=>∃ (p:Nat) (V:Nat->Value),(k:Int)-d<=p/\p<=k+1/\i=I4 p/\Hid (Bd w xs.length V (fun q=>if (k:Int)-d<=q/\q<p then aroundL (loopsU xs k) q++[(k:Int)] else aroundL (loopsU xs k) q) wr)) (fun i _=>k+1-(intOf i).toNat)
    case atStart =>
     refine ⟨((k:Int)-d).toNat,V,by omega,by omega,by rw [show ((((k:Int)-d).toNat:Nat):Int)=(k:Int)-d by omega],u.out.congr fun p hp=>?_⟩;rw [if_neg (by omega)]
    case round =>
     clear I K J G M;obtain ⟨p,V,ad,ae,rfl,n⟩:=hrel
     by_cases hpk:p<=k
     ·have X:=n.out.out.cell (i:=p) (by omega);have hfz:=n.out.out.frozen p;have a7:=n.out.out.lt;obtain ⟨N,L⟩:∃ N,Hid ((if (k:Int)-d<=p/\p<p then aroundL (loopsU xs k) p++[(k:Int)] else aroundL (loopsU xs k) p)=N):=⟨_,rfl⟩;have z:=n.out.own p (by omega);rw [L.out] at z
      have ab:N.length<=64:=by
       have e:=L.out;rw [if_neg (by omega)] at e;rw [<- e];have:=around_len (loopsU xs k) p;have:=loopsU_len xs k
       omega
      have a8:=n.out.g.size
      go_wp2_with (at_builtin;go_must (refine wpList_append_own_at _ rfl _ _ 22 rfl (w.heap.size+1) 3 i0 (I4 0) 1 8 Tryz.underlying22 hi O S a0 rfl (by decide) _ _ _ rfl (z.alloc _) ⟨_,0,none⟩ 1 1 [I4 k] rfl rfl (cell_one_new _ _ _) (one_cell _ _) (by unfold maxLen;omega) (by omega) (by simp;omega) ?_);intro v' w1 c f _ y;have HS:Hid _:=n.out.step (p:=p) (x:=k) (by omega) (by simp only [L.out];exact c) f y;obtain ⟨g1,a5,ev,_⟩:=own_open c (by omega);subst ev;have r:=n.out.row (by omega) f;have a4:=r.cell (i:=p) (by omega);have a6:=r.frozen p;have a9:=r.lt;clear c f y r X hfz)
      go_roundw
      case rel =>
       refine ⟨p+1,_,by omega,by omega,by go_num,HS.out.congr fun q Q=>?_⟩
       by_cases e:q=p
       ·subst e;rw [if_pos rfl,if_neg (by omega),if_pos (by omega)]
       ·rw [if_neg e]
        by_cases h1:(k:Int)-d<=q/\(q:Int)<p
        ·rw [if_pos (by omega),if_pos (by omega)]
        ·rw [if_neg (by omega),if_neg (by omega)]
      case measure=>simp [intOf];omega
     ·go_wp2
      go_roundw
      case rel =>
       refine ⟨k+1,_,by omega,by go_num,n.out.congr fun q Q=>?_⟩;rw [around_loop o.out,HH.out]
       by_cases h1:(k:Int)-d<=q/\(q:Int)<=k
       ·rw [if_pos h1,if_pos (by omega)]
       ·rw [if_neg h1,if_neg (by omega)]
      case measure=>simp [intOf];omega
   ·have a3:(op != 20)=true:=by simpa using h20
    have o:Hid ((nth xs k).op≠20):=by show _≠_;rw [B.out];exact h20
    go_wp2
    go_roundw
    case rel=>exact ⟨k+1,V,by omega,by go_num,u.out.congr fun q Q=>(around_same o.out q).symm⟩
    case measure=>simp [intOf];omega
  ·obtain rfl:k=xs.length:=by omega
   go_wp2;go_ret;exact ⟨V,rfl,u.out⟩
structure SeesB (w:World) (B N:Nat) (V:Nat->Value) (rows:List (List Int)):Prop where
 out:w.rowIs B 22 N V
 row:∀ p,p<N->Sees .i64 w (V p) (row rows p)
 len:∀ p,p<N->(Go.Proofs.YtmdhljoicnommaaGreat.row rows p).length<=64
theorem SeesB.below {w c:World}{B N:Nat}{V:Nat->Value}{a:List (List Int)}(h:SeesB w B N V a)(b:Bw w c):SeesB c B N V a :=
 ⟨h.out.of_block (b.block B h.out.lt),fun p d=>(h.row p d).below b (Nat.le_refl _),h.len⟩
theorem wf_ats {xs:List In}{n:Nat}(c:n<=64)(q:Int):∀ x∈aroundL (loopsU xs n) q,(Lit.int .i64 x).wf=true:=fun x b=>by
 obtain ⟨l,a,_,rfl⟩:=around_mem.1 b;obtain ⟨k,d,_,rfl⟩:=loopsU_mem.1 a;refine WalkArith.wf_i64 ?_;simp only [lpAt]
 omega
theorem Bd.sees {w wr:World}{V:Nat->Value}{xs:List In}(b:xs.length<=64)(h:Bd w xs.length V (fun p=>aroundL (loopsL xs) p) wr):SeesB wr w.heap.size xs.length V (bodyL xs):=by
 refine ⟨h.out,fun p a=>?_,fun p a=>?_⟩
 ·rw [bodyL,bodyU_row a];exact Sees.own (h.own p a) (wf_ats b p)
 ·rw [bodyL,bodyU_row a];have c:=around_len (loopsU xs xs.length) p;have d:=loopsU_len xs xs.length
  omega
theorem rcross_any (v:Value)(xs:List In)(w:World)(hs:SeesI w v xs)(hn:xs.length<=64)(B:Nat)(V:Nat->Value)(c:List (List Int))(M:SeesB w B xs.length V c){R:Option Int}(hR:Hid (R=optN (first (crossRB xs c) xs.length))) :
  Cl 79 #[v,.slice (some ⟨B,0,none⟩) xs.length xs.length] w fun e w'=>e=.returned (optI R)/\w=w':=by
 have P:Hid (SeesB w B xs.length V c):=M;have a1:=M.out.lt;obtain ⟨a,cap,rfl,hc,hm,a0,u⟩:=hs;have Z:Hid (xs≠[]->∃ b off,a=some ⟨b,off,none⟩/\b<w.heap.size/\∀ k,k<xs.length->At w b (off+k*5) (xs.getD k In.nil)):=u;clear u a0 M;go_enter Tryz.func79,Tryz.ntmps79;go_wp2
 go_loopw [7] (fun i wr=>∃ l:Nat,l<=xs.length/\i=I4 l/\Hid (∀ j,j<l->crossRB xs c j=false)/\w=wr) (fun i _=>xs.length-(intOf i).toNat)
 case atStart=>exact ⟨0,by omega,rfl,fun j y=>by omega,rfl⟩
 case round =>
  obtain ⟨l,hl,rfl,O,rfl⟩:=hrel
  by_cases hlt:l<xs.length
  ·obtain ⟨b,off,rfl,M,E⟩:=Z.out (fun h=>by rw [h] at hlt;simp at hlt);have HA:Hid (∀ k,k<xs.length->At w b (off+k*5) (xs.getD k In.nil)):=E;obtain ⟨X,_,_,_,_⟩:=E l hlt;clear E Z;obtain ⟨op,U⟩:∃ op,Hid ((nth xs l).op=op):=⟨_,rfl⟩
   replace X:w.cell? ⟨b,off+l*5,none⟩=some (I4 op):=by rw [<- U.out];exact X
   by_cases h20:op=20
   ·subst h20
    have Y:Hid (crossRB xs c l=(List.range l).any (pairB xs c l)):=by show _=_;unfold crossRB;rw [U.out];rfl
    go_wp2
    go_loopw [8] (fun i wr=>∃ m:Nat,m<=l/\i=I4 m/\Hid (∀ j,j<m->pairB xs c l j=false)/\w=wr) (fun i _=>l-(intOf i).toNat)
    case atStart=>exact ⟨0,by omega,rfl,fun j y=>by omega,rfl⟩
    case round =>
     obtain ⟨m,a3,rfl,L,rfl⟩:=hrel
     by_cases hmlt:m<l
     ·obtain ⟨d0,_,_,_,_⟩:=HA.out m (by omega);obtain ⟨I,K⟩:∃ I,Hid ((nth xs m).op=I):=⟨_,rfl⟩
      replace d0:w.cell? ⟨b,off+m*5,none⟩=some (I4 I):=by rw [<- K.out];exact d0
      by_cases hm20:I=20
      ·subst hm20
       have G:Hid (pairB xs c l m=(decide (0<cntU c m l xs.length) && !allU c m l xs.length)):=by show _=_;unfold pairB;rw [K.out];rfl
       go_wp2
       go_loopw [11,9,10] (fun i bo al wr=>∃ (p:Nat) (C:Int) (A:Bool),p<=xs.length/\i=I4 p/\bo=I4 C/\al=.bool A/\Hid (C=cntU c m l p/\A=allU c m l p)/\0<=C/\C<=p/\w=wr) (fun i _ _ _=>xs.length-(intOf i).toNat)
       case atStart=>exact ⟨0,0,true,by omega,rfl,rfl,rfl,⟨rfl,rfl⟩,by omega,by omega,rfl⟩
       case round =>
        obtain ⟨p,C,A,hp,rfl,rfl,rfl,s,a2,a6,rfl⟩:=hrel
        by_cases hplt:p<xs.length
        ·have a7:=P.out.out.cell (i:=p) hplt;obtain ⟨D,J⟩:∃ D,Hid (row c p=D):=⟨_,rfl⟩
         have g:Hid (Sees .i64 w (V p) D):=by rw [<- J.out];exact P.out.row p hplt
         have f:Hid (D.length<=64):=by rw [<- J.out];exact P.out.len p hplt
         obtain ⟨T,d⟩:∃ r,Hid (r=memB D m):=⟨_,rfl⟩;obtain ⟨Q,o⟩:∃ r,Hid (r=memB D l):=⟨_,rfl⟩
         have z:Hid (cntU c m l (p+1)=C+(if T&&Q then 1 else 0)/\allU c m l (p+1)=(A && !(T && !Q))):=by
          show _/\_
          rw [cntU,allU,s.out.1,s.out.2,J.out,d.out,o.out];exact ⟨rfl,rfl⟩
         cases T
         ·go_wp2_with (go_at_call 120;go_must (refine (has_as g.out f.out d).mono ?_);rintro e N ⟨rfl,rfl⟩)
          go_roundw
          case rel=>exact ⟨p+1,C,A,by omega,by go_num,rfl,rfl,⟨by rw [z.out.1];simp,by rw [z.out.2];simp⟩,by omega,by omega,by trivial⟩
          case measure=>simp [intOf];omega
         ·cases Q
          ·go_wp2_with (first
            | (go_at_call 120;(have n:=d;clear n);go_must (refine (has_as g.out f.out d).mono ?_);rintro e N ⟨rfl,rfl⟩;go_must (clear d))
            | (go_at_call 120;(have n:=o;clear n);go_must (refine (has_as g.out f.out o).mono ?_);rintro e N ⟨rfl,rfl⟩;go_must (clear o)))
           go_roundw
           case rel=>exact ⟨p+1,C,false,by omega,by go_num,rfl,rfl,⟨by rw [z.out.1];simp,by rw [z.out.2];simp⟩,by omega,by omega,by trivial⟩
           case measure=>simp [intOf];omega
          ·go_wp2_with (first
            | (go_at_call 120;(have n:=d;clear n);go_must (refine (has_as g.out f.out d).mono ?_);rintro e N ⟨rfl,rfl⟩;go_must (clear d))
            | (go_at_call 120;(have n:=o;clear n);go_must (refine (has_as g.out f.out o).mono ?_);rintro e N ⟨rfl,rfl⟩;go_must (clear o)))
           go_roundw
           case rel=>exact ⟨p+1,C+1,A,by omega,by go_num,by go_num,rfl,⟨by rw [z.out.1];simp,by rw [z.out.2];simp⟩,by omega,by omega,by trivial⟩
           case measure=>simp [intOf];omega
        ·obtain rfl:p=xs.length:=by omega
         have F:Hid (pairB xs c l m=(decide (0<C) && !A)):=by show _=_;rw [G.out,s.out.1,s.out.2]
         by_cases hC:0<C
         ·cases A
          ·have S:Hid (R=some (l:Int)):=by
            show _=_
            rw [hR.out,qDb O.out hlt,optN];rw [Y.out,List.any_eq_true];exact ⟨m,List.mem_range.2 hmlt,by rw [F.out,decide_eq_true hC];rfl⟩
           go_wp2;go_ret2;exact ⟨by rw [S.out];rfl,by trivial⟩
          ·go_wp2
           go_roundw
           case rel=>exact ⟨m+1,by omega,by go_num,fun j y=>by
            by_cases e:j=m
            ·rw [e,F.out];simp
            ·exact L.out j (by omega),by trivial⟩
           case measure=>simp [intOf];omega
         ·go_wp2
          go_roundw
          case rel=>exact ⟨m+1,by omega,by go_num,fun j y=>by
           by_cases e:j=m
           ·rw [e,F.out,decide_eq_false hC];rfl
           ·exact L.out j (by omega),by trivial⟩
          case measure=>simp [intOf];omega
      ·have a4:(I != 20)=true:=by simpa using hm20
       have G:Hid (pairB xs c l m=false):=by show _=_;unfold pairB;rw [K.out,decide_eq_false hm20];rfl
       go_wp2
       go_roundw
       case rel=>exact ⟨m+1,by omega,by go_num,fun j y=>by
        by_cases e:j=m
        ·rw [e,G.out]
        ·exact L.out j (by omega),by trivial⟩
       case measure=>simp [intOf];omega
     ·obtain rfl:m=l:=by omega
      go_wp2
      go_roundw
      case rel=>exact ⟨m+1,by omega,by go_num,fun j y=>by
       by_cases e:j=m
       ·rw [e,Y.out,List.any_eq_false];intro x hx;rw [L.out x (List.mem_range.1 hx)]
        simp
       ·exact O.out j (by omega),by trivial⟩
      case measure=>simp [intOf];omega
   ·have a5:(op != 20)=true:=by simpa using h20
    have G:Hid (crossRB xs c l=false):=by show _=_;unfold crossRB;rw [U.out,decide_eq_false h20];rfl
    go_wp2
    go_roundw
    case rel=>exact ⟨l+1,by omega,by go_num,fun j y=>by
     by_cases e:j=l
     ·rw [e,G.out]
     ·exact O.out j (by omega),by trivial⟩
    case measure=>simp [intOf];omega
  ·obtain rfl:l=xs.length:=by omega
   have S:Hid (R=none):=by show _=_;rw [hR.out,qCi O.out];rfl
   go_wp2;go_ret2;exact ⟨by rw [S.out];rfl,rfl⟩
theorem qCa {i:In}{op d a b c f:Int}{l o:Bool}(hi:Hid (i=⟨op,d,a,b,c⟩))(n:Hid (f=i.far))(g:Hid (l=i.leads))(k:Hid (o=i.on))(w:World):Cl 38 #[instV op d a b c] w fun e r=>e=.returned (.tuple #[I4 f,.bool l,.bool o])/\Bw w r:=by
 have h:=goes_any op d a b c w;rw [n.out,g.out,k.out,hi.out];exact h
theorem body_at {xs:List In}{q:Nat}(d:q<xs.length){x:Int}(b:x∈row (bodyL xs) q):∃ k:Nat,x=k/\k<xs.length/\(nth xs k).op=20:=by
 rw [bodyL,bodyU_row d,around_mem] at b;obtain ⟨l,c,_,rfl⟩:=b;obtain ⟨k,f,a,rfl⟩:=loopsU_mem.1 c;exact ⟨k,rfl,f,a⟩
theorem loop_d {xs:List In}(h:Placed xs){k:Nat}(b:k<xs.length)(c:(nth xs k).op=20):1<=(nth xs k).d/\(nth xs k).d<=63/\1<=(nth xs k).imm/\(nth xs k).imm<=255:=by
 have a:=(qCd b (h k b)).1
 rcases qAp (nth xs k) with h|h|h|h
 ·rw [h.1] at a;cases a
 ·omega
 ·omega
 ·omega
theorem any_take {a:List Int}{f:Int->Bool}{j:Nat}(h:j<a.length):(a.take (j+1)).any f=((a.take j).any f||f (a.getD j 0)):=by
 rw [take_at a j h,List.any_append]
 simp
theorem any_yes {a:List Int}{f:Int->Bool}{j:Nat}(h:j<a.length)(b:f (a.getD j 0)=true):a.any f=true:=by
 rw [List.any_eq_true];exact ⟨_,getD_mem a j h,b⟩
theorem renter_any (v:Value)(xs:List In)(w:World)(hs:SeesI w v xs)(hn:xs.length<=64)(a7:Placed xs)(B:Nat)(V:Nat->Value)(M:SeesB w B xs.length V (bodyL xs)){R:Option Int}(hR:Hid (R=optN (first (enterRB xs (bodyL xs)) xs.length))) :
  Cl 80 #[v,.slice (some ⟨B,0,none⟩) xs.length xs.length] w fun e w'=>e=.returned (optI R)/\Bw w w':=by
 have G:Hid (SeesB w B xs.length V (bodyL xs)):=M;have a2:Hid (Placed xs):=a7;have L:=M.out.lt;obtain ⟨a,cap,rfl,hc,hm,ac,F⟩:=hs;have HC:Hid (xs≠[]->∃ b off,a=some ⟨b,off,none⟩/\b<w.heap.size/\∀ k,k<xs.length->At w b (off+k*5) (xs.getD k In.nil)):=F;clear F ac M a7;go_enter Tryz.func80,Tryz.ntmps80;go_wp2
 go_loopw [7] (fun i wr=>∃ p:Nat,p<=xs.length/\i=I4 p/\Hid (∀ j,j<p->enterRB xs (bodyL xs) j=false)/\Bw w wr) (fun i _=>xs.length-(intOf i).toNat)
 case atStart=>exact ⟨0,by omega,rfl,fun j hj=>by omega,Below.refl _ _⟩
 case round =>
  obtain ⟨p,hp,rfl,K,A⟩:=hrel;have hsz:=A.size
  by_cases hlt:p<xs.length
  ·obtain ⟨b,off,rfl,M,a4⟩:=HC.out (fun h=>by rw [h] at hlt;simp at hlt)
   have HA:Hid (∀ c,Bw w c->∀ k,k<xs.length->At c b (off+k*5) (xs.getD k In.nil)):=fun c y k hk=>(a4 k hk).below y M
   clear a4 HC;obtain ⟨c0,c1,c2,c3,c4⟩:=HA.out _ A p hlt;obtain ⟨⟨op,d,a,bb,ad⟩,U⟩:∃ i,Hid (nth xs p=i):=⟨_,rfl⟩;have a0:xs.getD p In.nil=⟨op,d,a,bb,ad⟩:=U.out;rw [a0] at c0 c1 c2 c3 c4;clear a0;simp only at c0 c1 c2 c3 c4
   have av:b<wr.heap.size:=by omega
   obtain ⟨f,E⟩:∃ f,Hid (f=(nth xs p).far):=⟨_,rfl⟩;obtain ⟨l,S⟩:∃ l,Hid (l=(nth xs p).leads):=⟨_,rfl⟩;obtain ⟨o,HO⟩:∃ o,Hid (o=(nth xs p).on):=⟨_,rfl⟩;have ag:=far_bd (nth xs p);rw [<- E.out] at ag
   have P:Hid (enterRB xs (bodyL xs) p=(l&&(decide (0<=f)&&(row (bodyL xs) ((p:Int)+f).toNat).any (outB xs (bodyL xs) p (p+f))))):=by show _=_;rw [E.out,S.out];rfl
   cases l
   ·go_wp2_with (go_at_call 38;go_must (refine (qCa U E S HO _).mono ?_);rintro e c ⟨rfl,u⟩;go_must (have s:=A.trans (u.mono hsz);clear u))
    go_roundw
    case rel=>exact ⟨p+1,by omega,by go_num,fun j hj=>by
     by_cases e:j=p
     ·rw [e,P.out];rfl
     ·exact K.out j (by omega),s⟩
    case measure=>simp [intOf];omega
   ·by_cases hf0:f<0
    ·go_wp2_with (go_at_call 38;go_must (refine (qCa U E S HO _).mono ?_);rintro e c ⟨rfl,u⟩;go_must (have s:=A.trans (u.mono hsz);clear u))
     go_roundw
     case rel=>exact ⟨p+1,by omega,by go_num,fun j hj=>by
      by_cases e:j=p
      ·rw [e,P.out,decide_eq_false (by omega)];rfl
      ·exact K.out j (by omega),s⟩
     case measure=>simp [intOf];omega
    ·have ao:(p:Int)+f<xs.length:=by
      have:=(qCd hlt (a2.out p hlt)).2.2.1;rw [<- E.out] at this;exact this
     obtain ⟨q,hq⟩:∃ q:Nat,(p:Int)+f=q:=⟨((p:Int)+f).toNat,by omega⟩
     have D:q<xs.length:=by omega
     obtain ⟨n,Q⟩:∃ n,Hid (row (bodyL xs) q=n):=⟨_,rfl⟩;obtain ⟨I,HZ⟩:∃ I,Hid (row (bodyL xs) p=I):=⟨_,rfl⟩
     have Z:Hid (enterRB xs (bodyL xs) p=n.any (outB xs (bodyL xs) p q)):=by
      show _=_
      rw [P.out,decide_eq_true (by omega),hq,<- Q.out]
      rfl
     have a6:Hid (∀ c,Bw w c->Sees .i64 c (V q) n):=fun c y=>by rw [<- Q.out];exact (G.out.row q D).below y (Nat.le_refl _)
     have J:Hid (∀ c,Bw w c->Sees .i64 c (V p) I):=fun c y=>by rw [<- HZ.out];exact (G.out.row p hlt).below y (Nat.le_refl _)
     have aa:Hid (n.length<=64):=by rw [<- Q.out];exact G.out.len q D
     have O:Hid (I.length<=64):=by rw [<- HZ.out];exact G.out.len p hlt
     have ab:Hid (∀ c,Bw w c->c.cell? ⟨B,q,none⟩=some (V q)/\c.cell? ⟨B,p,none⟩=some (V p)):=fun c y=>by
      rw [y.cell (p:=⟨B,q,none⟩) L,y.cell (p:=⟨B,p,none⟩) L];exact ⟨G.out.out.cell D,G.out.out.cell hlt⟩
     obtain ⟨aq,cq,a3⟩:=(a6.out w (Below.refl _ _)).shape;have al:=aa.out
     have ah:Hid (∀ x∈n,∃ k:Nat,x=k/\k<xs.length/\(nth xs k).op=20):=fun x hx=>by
      rw [<- Q.out] at hx;exact body_at D hx
     have ai:0<=f:=by omega
     clear hf0 P
     go_wp2_with (go_at_call 38;go_must (refine (qCa U E S HO _).mono ?_);rintro e c ⟨rfl,u⟩;go_must (have s:=A.trans (u.mono hsz);clear u))
     go_loopw [11] (fun i wr=>∃ j:Nat,j<=n.length/\i=I4 j/\Hid ((n.take j).any (outB xs (bodyL xs) p q)=false)/\Bw w wr) (fun i _=>n.length-(intOf i).toNat)
     case atStart=>exact ⟨0,by omega,rfl,rfl,s⟩
     case round =>
      clear c0 c1 c2 c3 c4 s;obtain ⟨j,hj,rfl,HJ,g⟩:=hrel;have ar:=g.size;obtain ⟨e0,e1⟩:=ab.out _ g
      have ap:B<wr.heap.size:=by omega
      rw [a3] at e0
      by_cases hjn:j<n.length
      ·obtain ⟨am,au,ev,_,_,_,_,a5⟩:=a6.out _ g;obtain ⟨bq,a8,ea,aj,Y⟩:=a5 (fun h=>by rw [h] at hjn;simp at hjn)
       obtain rfl:aq=some ⟨bq,a8,none⟩:=by rw [a3] at ev;injection ev with e1 _ _;rw [e1,ea]
       have g0:=Y j hjn;clear ev ea Y a5;obtain ⟨k,N,a1,X⟩:=ah.out _ (getD_mem n j hjn);rw [N] at g0;have HK:Hid (n.getD j 0=(k:Int)):=N;clear N;obtain ⟨_,k1,_,_,_⟩:=HA.out _ g k a1;obtain ⟨z,HD⟩:∃ z,Hid ((nth xs k).d=z):=⟨_,rfl⟩
       replace k1:wr.cell? ⟨b,off+k*5+1,none⟩=some (I4 z):=by rw [<- HD.out];exact k1
       have ak:1<=z/\z<=63:=by have:=loop_d a2.out a1 X;rw [HD.out] at this;omega
       clear X;obtain ⟨r,T⟩:∃ r,Hid (r=memB I k):=⟨_,rfl⟩
       have HT:Hid ((n.take (j+1)).any (outB xs (bodyL xs) p q)=(!r&&decide ((q:Int)≠k-z))):=by
        show _=_
        rw [any_take hjn,HJ.out,HK.out];unfold outB;rw [HZ.out,T.out,show ((k:Int)).toNat=k by omega,HD.out]
        rfl
       cases r
       ·by_cases hne:(q:Int)=k-z
        ·have a9:((q:Int) != (k:Int)-z)=false:=by simpa using hne
         have af:Hid ((q:Int)=k-z):=hne;clear hne
         go_wp2_with (go_at_call 120;go_must (refine (has_as (J.out _ g) O.out T).mono ?_);rintro e c ⟨rfl,rfl⟩)
         go_roundw
         case rel=>exact ⟨j+1,by omega,by go_num,by show _=_;rw [HT.out,decide_eq_false (by have:=af.out;omega)];rfl,g⟩
         case measure=>simp [intOf];omega
        ·have a9:((q:Int) != (k:Int)-z)=true:=by simpa using hne
         have ae:Hid (R=some (p:Int)):=by
          show _=_
          rw [hR.out,qDb K.out hlt,optN];rw [Z.out];refine any_yes hjn ?_;have y:=HT.out;rw [any_take hjn,HJ.out,Bool.false_or] at y;rw [y,decide_eq_true hne];rfl
         go_wp2_with (go_at_call 120;go_must (refine (has_as (J.out _ g) O.out T).mono ?_);rintro e c ⟨rfl,rfl⟩)
         go_ret2;exact ⟨by rw [ae.out];rfl,g⟩
       ·go_wp2_with (go_at_call 120;go_must (refine (has_as (J.out _ g) O.out T).mono ?_);rintro e c ⟨rfl,rfl⟩)
        go_roundw
        case rel=>exact ⟨j+1,by omega,by go_num,by show _=_;rw [HT.out];rfl,g⟩
        case measure=>simp [intOf];omega
      ·obtain rfl:j=n.length:=by omega
       go_wp2
       go_roundw
       case rel=>exact ⟨p+1,by omega,by go_num,fun i hi=>by
        by_cases e:i=p
        ·rw [e,Z.out];have:=HJ.out;rwa [List.take_length] at this
        ·exact K.out i (by omega),g⟩
       case measure=>simp [intOf];omega
  ·obtain rfl:p=xs.length:=by omega
   have E:Hid (R=none):=by show _=_;rw [hR.out,qCi K.out];rfl
   go_wp2;go_ret2;exact ⟨by rw [E.out];rfl,A⟩
theorem drop_int {a:List Int}{j:Nat}(h:j<a.length):a.drop j=a.getD j 0 :: a.drop (j+1):=by
 rw [List.drop_eq_getElem_cons h];simp [List.getD,h]
theorem rcost_any (v:Value)(xs:List In)(w:World)(hs:SeesI w v xs)(hn:xs.length<=64)(E:Placed xs)(B:Nat)(V:Nat->Value)(n:SeesB w B xs.length V (bodyL xs)){R:Int}(hR:Hid (R=costR xs (bodyL xs) xs.length)) :
  Cl 81 #[v,.slice (some ⟨B,0,none⟩) xs.length xs.length] w fun e w'=>e=.returned (I4 R)/\w=w':=by
 have G:Hid (SeesB w B xs.length V (bodyL xs)):=n;have z:Hid (Placed xs):=E;have a3:=n.out.lt;obtain ⟨a,cap,rfl,hc,hm,a0,f⟩:=hs;have HC:Hid (xs≠[]->∃ b off,a=some ⟨b,off,none⟩/\b<w.heap.size/\∀ k,k<xs.length->At w b (off+k*5) (xs.getD k In.nil)):=f;clear f a0 n E;go_enter Tryz.func81,Tryz.ntmps81;go_wp2
 go_loopw [6,5] (fun i s wr=>∃ (p:Nat) (S:Int),p<=xs.length/\i=I4 p/\s=I4 S/\Hid (S=costR xs (bodyL xs) p)/\0<=S/\S<=65536*p/\w=wr) (fun i _ _=>xs.length-(intOf i).toNat)
 case atStart=>exact ⟨0,0,by omega,rfl,rfl,rfl,by omega,by omega,rfl⟩
 case round =>
  obtain ⟨p,S,hp,rfl,rfl,P,a5,aa,rfl⟩:=hrel
  by_cases hlt:p<xs.length
  ·obtain ⟨b,off,rfl,n,o⟩:=HC.out (fun h=>by rw [h] at hlt;simp at hlt);have HA:Hid (∀ k,k<xs.length->At w b (off+k*5) (xs.getD k In.nil)):=o;clear o HC;obtain ⟨c,l⟩:∃ c,Hid (row (bodyL xs) p=c):=⟨_,rfl⟩
   have D:Hid (Sees .i64 w (V p) c):=by rw [<- l.out];exact G.out.row p hlt
   have M:Hid (c.length<=64):=by rw [<- l.out];exact G.out.len p hlt
   have a6:=M.out;have Q:=G.out.out.cell (i:=p) hlt;obtain ⟨aq,cq,u⟩:=D.out.shape;rw [u] at Q
   have Z:Hid (∀ x∈c,∃ k:Nat,x=k/\k<xs.length/\(nth xs k).op=20):=fun x T=>by
    rw [<- l.out] at T;exact body_at hlt T
   have a8:Hid (1<=earlyR xs c 1/\earlyR xs c 1<=65536):=by rw [<- l.out];have:=early_ok z.out hlt;exact ⟨this.1,this.2.1⟩
   have X:Hid (costR xs (bodyL xs) (p+1)=S+earlyR xs c 1):=by show _=_;rw [costR,P.out,l.out]
   go_wp2
   go_loopw [8,7] (fun i s wr=>∃ (j:Nat) (t:Int),j<=c.length/\i=I4 j/\s=I4 t/\Hid (earlyR xs c 1=earlyR xs (c.drop j) t)/\1<=t/\t<=65536/\w=wr) (fun i _ _=>c.length-(intOf i).toNat)
   case atStart=>exact ⟨0,1,by omega,rfl,rfl,rfl,by omega,by omega,rfl⟩
   case round =>
    obtain ⟨j,t,hj,rfl,rfl,I,O,a4,rfl⟩:=hrel
    by_cases hjn:j<c.length
    ·by_cases ht:t<=256
     ·obtain ⟨ab,a9,ev,_,_,_,_,A⟩:=D.out;obtain ⟨bq,L,N,a2,y⟩:=A (fun h=>by rw [h] at hjn;simp at hjn)
      obtain rfl:aq=some ⟨bq,L,none⟩:=by rw [u] at ev;injection ev with e1 _ _;rw [e1,N]
      have g0:=y j hjn;clear ev N y A;obtain ⟨k,g,F,r⟩:=Z.out _ (getD_mem c j hjn);rw [g] at g0;have HK:Hid (c.getD j 0=(k:Int)):=g;clear g;obtain ⟨_,_,_,_,U⟩:=HA.out k F;obtain ⟨d,J⟩:∃ d,Hid ((nth xs k).imm=d):=⟨_,rfl⟩
      replace U:w.cell? ⟨b,off+k*5+4,none⟩=some (I4 d):=by rw [<- J.out];exact U
      have ac:1<=d/\d<=255:=by have:=loop_d z.out F r;rw [J.out] at this;omega
      clear r;have a1:0<=t*(d+1)/\t*(d+1)<=256*256:=⟨Int.mul_nonneg (by omega) (by omega),Int.mul_le_mul ht (by omega) (by omega) (by omega)⟩;have a7:=mul_grow O (show 0<=d by omega)
      have Y:Hid (earlyR xs c 1=earlyR xs (c.drop (j+1)) (t*(d+1))):=by
       show _=_
       rw [I.out,drop_int hjn,earlyR,if_pos ht,HK.out,show ((k:Int)).toNat=k by omega,J.out]
      go_wp2
      go_roundw
      case rel=>exact ⟨j+1,t*(d+1),by omega,by go_num,by go_num,Y,by omega,by omega,by trivial⟩
      case measure=>simp [intOf];omega
     ·have K:Hid (earlyR xs c 1=t):=by show _=_;rw [I.out,drop_int hjn,earlyR,if_neg ht]
      go_wp2
      go_roundw
      case rel=>exact ⟨p+1,S+t,by omega,by go_num,by go_num,by show _=_;rw [X.out,K.out],by omega,by omega,by trivial⟩
      case measure=>simp [intOf];omega
    ·obtain rfl:j=c.length:=by omega
     have K:Hid (earlyR xs c 1=t):=by show _=_;rw [I.out,List.drop_length];rfl
     go_wp2
     go_roundw
     case rel=>exact ⟨p+1,S+t,by omega,by go_num,by go_num,by show _=_;rw [X.out,K.out],by omega,by omega,by trivial⟩
     case measure=>simp [intOf];omega
  ·obtain rfl:p=xs.length:=by omega
   go_wp2;go_ret;exact ⟨ri (by rw [hR.out,P.out]),by trivial⟩
theorem qCx {i:In}{op d a b c:Int}{r:Bool}(hi:Hid (i=⟨op,d,a,b,c⟩))(g:Hid (r=i.right))(w:World):Cl 63 #[instV op d a b c] w fun e f=>e=.returned (.bool r)/\Bw w f:=by
 have h:=qCk op d a b c w;rw [g.out,hi.out];exact h
theorem rcheck_any (v:Value)(xs:List In)(w:World)(hs:SeesI w v xs){P E:Int}(hP:Hid (checkL xs=(P,E))) :
  Cl 50 #[v] w fun e w'=>e=.returned (.tuple #[I4 P,I4 E])/\Bw w w':=by
 have hP:Hid (checkR xs=(P,E)):=by show _=_;rw [checkR_eq];exact hP.out
 have HS:=keepH hs;obtain ⟨a,cap,rfl,hc,hm,af,a3⟩:=hs;have HC:Hid (xs≠[]->∃ b off,a=some ⟨b,off,none⟩/\b<w.heap.size/\∀ k,k<xs.length->At w b (off+k*5) (xs.getD k In.nil)):=a3;clear a3 af
 by_cases h0:xs.length=0
 ·have A:Hid (P=0/\E=10):=by have:=hP.out;unfold checkR at this;rw [if_pos h0] at this;injection this with a b;exact ⟨a.symm,b.symm⟩
  rw [h0];go_enter Tryz.func50,Tryz.ntmps50;go_wp2;go_ret2;exact ⟨r2i A.out.1.symm A.out.2.symm,Below.refl _ _⟩
 have ag:((xs.length:Int)==0)=false:=by simp;exact fun h=>h0 (by rw [h];rfl)
 by_cases h64:64<xs.length
 ·have A:Hid (P=0/\E=11):=by have:=hP.out;unfold checkR at this;rw [if_neg h0,if_pos h64] at this;injection this with a b;exact ⟨a.symm,b.symm⟩
  go_enter Tryz.func50,Tryz.ntmps50;go_wp2;go_ret2;exact ⟨r2i A.out.1.symm A.out.2.symm,Below.refl _ _⟩
 have HP:Hid ((P,E)=match first (placeB xs) xs.length with
   | some k=>((k:Int),placeE xs k)
   | none=>match first (crossRB xs (bodyL xs)) xs.length with
    | some t=>((t:Int),31)
    | none=>match first (enterRB xs (bodyL xs)) xs.length with
     | some p=>((p:Int),31)
     | none=>if 256<costR xs (bodyL xs) xs.length then (0,32) else (0,0)):=by
  have h:=hP.out;unfold checkR at h;rw [if_neg h0,if_neg h64] at h;exact h.symm
 clear hP;obtain ⟨b,off,rfl,hb,a9⟩:=HC.out (fun h=>by rw [h] at h0;simp at h0)
 have HA:Hid (∀ s,Bw w s->∀ k,k<xs.length->At s b (off+k*5) (xs.getD k In.nil)):=fun s S k hk=>(a9 k hk).below S hb
 clear a9 HC;go_enter Tryz.func50,Tryz.ntmps50;go_wp2
 go_loopw [5] (fun i wr=>∃ k:Nat,k<=xs.length/\i=I4 k/\Hid (∀ j,j<k->placeB xs j=false)/\Bw w wr) (fun i _=>xs.length-(intOf i).toNat)
 case atStart=>exact ⟨0,by omega,rfl,fun j hj=>by omega,Below.refl _ _⟩
 case round =>
  obtain ⟨k,hk,rfl,HK,B⟩:=hrel;have hsz:=B.size
  by_cases hlt:k<xs.length
  ·obtain ⟨c0,c1,c2,c3,c4⟩:=HA.out _ B k hlt;obtain ⟨⟨op,d,a,bb,aa⟩,F⟩:∃ i,Hid (nth xs k=i):=⟨_,rfl⟩;have a1:xs.getD k In.nil=⟨op,d,a,bb,aa⟩:=F.out;rw [a1] at c0 c1 c2 c3 c4
   have T:Hid (∀ s,Bw w s->At s b (off+k*5) ⟨op,d,a,bb,aa⟩):=fun s S=>by rw [<- a1];exact HA.out s S k hlt
   clear a1;simp only at c0 c1 c2 c3 c4
   have ah:b<wr.heap.size:=by omega
   obtain ⟨r,X⟩:∃ r,Hid (r=(nth xs k).right):=⟨_,rfl⟩;obtain ⟨f,Y⟩:∃ f,Hid (f=(nth xs k).far):=⟨_,rfl⟩;obtain ⟨l,HL⟩:∃ l,Hid (l=(nth xs k).leads):=⟨_,rfl⟩;obtain ⟨o,HO⟩:∃ o,Hid (o=(nth xs k).on):=⟨_,rfl⟩;have ac:=far_bd (nth xs k);rw [<- Y.out] at ac
   have ab:l=false->f=0:=by
    intro h
    rcases qAp (nth xs k) with g|g|g|g
    ·rw [Y.out,g.2.1]
    ·rw [HL.out,g.2.2.2.2.1] at h;cases h
    ·rw [HL.out,g.2.2.2.1] at h;cases h
    ·rw [Y.out,g.2.2.1]
   have ae:Hid (l=false->f=0):=ab;clear ab
   have HX:Hid (placeE xs k=if r=false then 12 else if (k:Int)+f<0∨(xs.length:Int)<=k+f then 30 else if o=true/\k+1=xs.length then 36 else 0):=by show _=_;rw [X.out,Y.out,HO.out];rfl
   have HY:Hid (∀ q,placeE xs k=q->q≠0->(k:Int)=P/\q=E):=fun q hq ad=>by
    have h:=HP.out;rw [qDb HK.out hlt (by unfold placeB;rw [hq];simpa using ad)] at h
    dsimp only at h
    injection h with S h2;exact ⟨S.symm,by rw [h2,hq]⟩
   have HZ:Hid (placeE xs k=0->∀ j,j<k+1->placeB xs j=false):=fun hq j hj=>by
    by_cases e:j=k
    ·rw [e];unfold placeB;rw [hq];rfl
    ·exact HK.out j (by omega)
   cases r
   ·have A:Hid ((k:Int)=P/\12=E):=HY.out 12 (by rw [HX.out];rfl) (by decide)
    go_wp2_with (first
     | (go_at_call 63;go_must (refine (qCx F X _).mono ?_);rintro e s ⟨rfl,u⟩;go_must (have c:=B.trans (u.mono hsz);clear u;obtain ⟨d0,L,M,G,J⟩:=T.out s c;clear c0 c1 c2 c3 c4;have N:=c.size;have K:b<s.heap.size:=by omega))
     | (go_at_call 38;go_must (refine (qCa F Y HL HO _).mono ?_);rintro e w2 ⟨rfl,n⟩;go_must (have z:=c.trans (n.mono c.size);clear n d0 L M G J)))
    go_ret2;exact ⟨r2i A.out.1 A.out.2,c⟩
   ·cases l
    ·obtain rfl:f=0:=ae.out rfl
     cases o
     ·have A:Hid (∀ j,j<k+1->placeB xs j=false):=HZ.out (by rw [HX.out];rw [if_neg (by simp),if_neg (by omega),if_neg (by simp)])
      go_wp2_with (first
       | (go_at_call 63;go_must (refine (qCx F X _).mono ?_);rintro e s ⟨rfl,u⟩;go_must (have c:=B.trans (u.mono hsz);clear u;obtain ⟨d0,L,M,G,J⟩:=T.out s c;clear c0 c1 c2 c3 c4;have N:=c.size;have K:b<s.heap.size:=by omega))
       | (go_at_call 38;go_must (refine (qCa F Y HL HO _).mono ?_);rintro e w2 ⟨rfl,n⟩;go_must (have z:=c.trans (n.mono c.size);clear n d0 L M G J)))
      go_roundw
      case rel=>exact ⟨k+1,by omega,by go_num,A,z⟩
      case measure=>simp [intOf];omega
     ·by_cases he:k+1=xs.length
      ·have a8:((k:Int)+1==(xs.length:Int))=true:=by simp;omega
       have A:Hid ((k:Int)=P/\36=E):=HY.out 36 (by rw [HX.out];rw [if_neg (by simp),if_neg (by omega),if_pos ⟨rfl,he⟩]) (by decide)
       go_wp2_with (first
        | (go_at_call 63;go_must (refine (qCx F X _).mono ?_);rintro e s ⟨rfl,u⟩;go_must (have c:=B.trans (u.mono hsz);clear u;obtain ⟨d0,L,M,G,J⟩:=T.out s c;clear c0 c1 c2 c3 c4;have N:=c.size;have K:b<s.heap.size:=by omega))
        | (go_at_call 38;go_must (refine (qCa F Y HL HO _).mono ?_);rintro e w2 ⟨rfl,n⟩;go_must (have z:=c.trans (n.mono c.size);clear n d0 L M G J)))
       go_ret2;exact ⟨r2i A.out.1 A.out.2,z⟩
      ·have a8:((k:Int)+1==(xs.length:Int))=false:=by simp;omega
       have A:Hid (∀ j,j<k+1->placeB xs j=false):=HZ.out (by rw [HX.out];rw [if_neg (by simp),if_neg (by omega),if_neg (by simp;omega)])
       go_wp2_with (first
        | (go_at_call 63;go_must (refine (qCx F X _).mono ?_);rintro e s ⟨rfl,u⟩;go_must (have c:=B.trans (u.mono hsz);clear u;obtain ⟨d0,L,M,G,J⟩:=T.out s c;clear c0 c1 c2 c3 c4;have N:=c.size;have K:b<s.heap.size:=by omega))
        | (go_at_call 38;go_must (refine (qCa F Y HL HO _).mono ?_);rintro e w2 ⟨rfl,n⟩;go_must (have z:=c.trans (n.mono c.size);clear n d0 L M G J)))
       go_roundw
       case rel=>exact ⟨k+1,by omega,by go_num,A,z⟩
       case measure=>simp [intOf];omega
    ·by_cases S:(k:Int)+f<0
     ·have A:Hid ((k:Int)=P/\30=E):=HY.out 30 (by rw [HX.out];rw [if_neg (by simp),if_pos (.inl S)]) (by decide)
      go_wp2_with (first
       | (go_at_call 63;go_must (refine (qCx F X _).mono ?_);rintro e s ⟨rfl,u⟩;go_must (have c:=B.trans (u.mono hsz);clear u;obtain ⟨d0,L,M,G,J⟩:=T.out s c;clear c0 c1 c2 c3 c4;have N:=c.size;have K:b<s.heap.size:=by omega))
       | (go_at_call 38;go_must (refine (qCa F Y HL HO _).mono ?_);rintro e w2 ⟨rfl,n⟩;go_must (have z:=c.trans (n.mono c.size);clear n d0 L M G J)))
      go_ret2;exact ⟨r2i A.out.1 A.out.2,z⟩
     ·by_cases h2:(xs.length:Int)<=k+f
      ·have h3:(xs.length:Int)-1<k+f:=by omega
       have A:Hid ((k:Int)=P/\30=E):=HY.out 30 (by rw [HX.out];rw [if_neg (by simp),if_pos (.inr h2)]) (by decide)
       go_wp2_with (first
        | (go_at_call 63;go_must (refine (qCx F X _).mono ?_);rintro e s ⟨rfl,u⟩;go_must (have c:=B.trans (u.mono hsz);clear u;obtain ⟨d0,L,M,G,J⟩:=T.out s c;clear c0 c1 c2 c3 c4;have N:=c.size;have K:b<s.heap.size:=by omega))
        | (go_at_call 38;go_must (refine (qCa F Y HL HO _).mono ?_);rintro e w2 ⟨rfl,n⟩;go_must (have z:=c.trans (n.mono c.size);clear n d0 L M G J)))
       go_ret2;exact ⟨r2i A.out.1 A.out.2,z⟩
      ·have h3:¬ (xs.length:Int)-1<k+f:=by omega
       cases o
       ·have A:Hid (∀ j,j<k+1->placeB xs j=false):=HZ.out (by rw [HX.out];rw [if_neg (by simp),if_neg (by omega),if_neg (by simp)])
        go_wp2_with (first
         | (go_at_call 63;go_must (refine (qCx F X _).mono ?_);rintro e s ⟨rfl,u⟩;go_must (have c:=B.trans (u.mono hsz);clear u;obtain ⟨d0,L,M,G,J⟩:=T.out s c;clear c0 c1 c2 c3 c4;have N:=c.size;have K:b<s.heap.size:=by omega))
         | (go_at_call 38;go_must (refine (qCa F Y HL HO _).mono ?_);rintro e w2 ⟨rfl,n⟩;go_must (have z:=c.trans (n.mono c.size);clear n d0 L M G J)))
        go_roundw
        case rel=>exact ⟨k+1,by omega,by go_num,A,z⟩
        case measure=>simp [intOf];omega
       ·by_cases he:k+1=xs.length
        ·have a8:((k:Int)+1==(xs.length:Int))=true:=by simp;omega
         have A:Hid ((k:Int)=P/\36=E):=HY.out 36 (by rw [HX.out];rw [if_neg (by simp),if_neg (by omega),if_pos ⟨rfl,he⟩]) (by decide)
         go_wp2_with (first
          | (go_at_call 63;go_must (refine (qCx F X _).mono ?_);rintro e s ⟨rfl,u⟩;go_must (have c:=B.trans (u.mono hsz);clear u;obtain ⟨d0,L,M,G,J⟩:=T.out s c;clear c0 c1 c2 c3 c4;have N:=c.size;have K:b<s.heap.size:=by omega))
          | (go_at_call 38;go_must (refine (qCa F Y HL HO _).mono ?_);rintro e w2 ⟨rfl,n⟩;go_must (have z:=c.trans (n.mono c.size);clear n d0 L M G J)))
         go_ret2;exact ⟨r2i A.out.1 A.out.2,z⟩
        ·have a8:((k:Int)+1==(xs.length:Int))=false:=by simp;omega
         have A:Hid (∀ j,j<k+1->placeB xs j=false):=HZ.out (by rw [HX.out];rw [if_neg (by simp),if_neg (by omega),if_neg (by simp;omega)])
         go_wp2_with (first
          | (go_at_call 63;go_must (refine (qCx F X _).mono ?_);rintro e s ⟨rfl,u⟩;go_must (have c:=B.trans (u.mono hsz);clear u;obtain ⟨d0,L,M,G,J⟩:=T.out s c;clear c0 c1 c2 c3 c4;have N:=c.size;have K:b<s.heap.size:=by omega))
          | (go_at_call 38;go_must (refine (qCa F Y HL HO _).mono ?_);rintro e w2 ⟨rfl,n⟩;go_must (have z:=c.trans (n.mono c.size);clear n d0 L M G J)))
         go_roundw
         case rel=>exact ⟨k+1,by omega,by go_num,A,z⟩
         case measure=>simp [intOf];omega
  ·obtain rfl:k=xs.length:=by omega
   have U:Hid (Placed xs):=HK.out
   have a0:Hid ((P,E)=match first (crossRB xs (bodyL xs)) xs.length with
    | some t=>((t:Int),31)
    | none=>match first (enterRB xs (bodyL xs)) xs.length with
     | some p=>((p:Int),31)
     | none=>if 256<costR xs (bodyL xs) xs.length then (0,32) else (0,0)):=by
    have h:=HP.out;rw [qCi HK.out] at h;exact h
   clear HP;have a2:Hid (SeesI wr (.slice (some ⟨b,off,none⟩) xs.length cap) xs):=HS.out.below B;obtain ⟨R,X⟩:∃ R,Hid (R=first (crossRB xs (bodyL xs)) xs.length):=⟨_,rfl⟩;rw [<- X.out] at a0
   have a4:Hid (optN R=optN (first (crossRB xs (bodyL xs)) xs.length)):=by show _=_;rw [X.out]
   obtain ⟨I,F⟩:∃ I,Hid (I=first (enterRB xs (bodyL xs)) xs.length):=⟨_,rfl⟩;rw [<- F.out] at a0
   have a1:Hid (optN I=optN (first (enterRB xs (bodyL xs)) xs.length)):=by show _=_;rw [F.out]
   obtain ⟨C,a7⟩:∃ C,Hid (C=costR xs (bodyL xs) xs.length):=⟨_,rfl⟩;rw [<- a7.out] at a0
   have y:xs.length<=64:=by omega
   cases R with
   | some t =>
    have HB:Hid (P=(t:Int)/\E=31):=by have h:=a0.out;dsimp only at h;injection h with S h2;exact ⟨S,h2⟩
    go_wp2_with (first
     | (go_at_call 78;go_must (refine (bodies_any _ xs _ a2.out U.out y).mono ?_);rintro e s ⟨V,rfl,D⟩;go_must (have Z:Hid (SeesB s wr.heap.size xs.length V (bodyL xs)):=Bd.sees y D;have c:=B.trans (D.g.mono hsz);clear D))
     | (go_at_call 79;go_must (refine (rcross_any _ xs _ (HS.out.below c) y _ V (bodyL xs) Z.out a4).mono ?_);rintro e w2 ⟨he,n⟩;go_must (simp only [optI,optN] at he;subst he n)))
    go_ret2;exact ⟨r2i HB.out.1.symm HB.out.2.symm,c⟩
   | none =>
    cases I with
    | some p =>
     have HB:Hid (P=(p:Int)/\E=31):=by have h:=a0.out;dsimp only at h;injection h with S h2;exact ⟨S,h2⟩
     go_wp2_with (first
      | (go_at_call 78;go_must (refine (bodies_any _ xs _ a2.out U.out y).mono ?_);rintro e s ⟨V,rfl,D⟩;go_must (have Z:Hid (SeesB s wr.heap.size xs.length V (bodyL xs)):=Bd.sees y D;have c:=B.trans (D.g.mono hsz);clear D))
      | (go_at_call 79;go_must (refine (rcross_any _ xs _ (HS.out.below c) y _ V (bodyL xs) Z.out a4).mono ?_);rintro e w2 ⟨he,n⟩;go_must (simp only [optI,optN] at he;subst he n))
      | (go_at_call 80;go_must (refine (renter_any _ xs _ (HS.out.below c) y U.out _ V Z.out a1).mono ?_);rintro e w3 ⟨he,O⟩;go_must (simp only [optI,optN] at he;subst he;have Q:=c.trans (O.mono c.size);have a5:Hid (SeesB w3 wr.heap.size xs.length V (bodyL xs)):=SeesB.below Z.out O;clear O)))
     go_ret2;exact ⟨r2i HB.out.1.symm HB.out.2.symm,Q⟩
    | none =>
     by_cases hC:256<C
     ·have HB:Hid (P=0/\E=32):=by have h:=a0.out;dsimp only at h;rw [if_pos hC] at h;injection h with S h2;exact ⟨S,h2⟩
      go_wp2_with (first
       | (go_at_call 78;go_must (refine (bodies_any _ xs _ a2.out U.out y).mono ?_);rintro e s ⟨V,rfl,D⟩;go_must (have Z:Hid (SeesB s wr.heap.size xs.length V (bodyL xs)):=Bd.sees y D;have c:=B.trans (D.g.mono hsz);clear D))
       | (go_at_call 79;go_must (refine (rcross_any _ xs _ (HS.out.below c) y _ V (bodyL xs) Z.out a4).mono ?_);rintro e w2 ⟨he,n⟩;go_must (simp only [optI,optN] at he;subst he n))
       | (go_at_call 80;go_must (refine (renter_any _ xs _ (HS.out.below c) y U.out _ V Z.out a1).mono ?_);rintro e w3 ⟨he,O⟩;go_must (simp only [optI,optN] at he;subst he;have Q:=c.trans (O.mono c.size);have a5:Hid (SeesB w3 wr.heap.size xs.length V (bodyL xs)):=SeesB.below Z.out O;clear O))
       | (go_at_call 81;go_must (refine (rcost_any _ xs _ (HS.out.below Q) y U.out _ V a5.out a7).mono ?_);rintro e w4 ⟨he,a6⟩;go_must (subst he a6)))
      go_ret2;exact ⟨r2i HB.out.1.symm HB.out.2.symm,Q⟩
     ·have HB:Hid (P=0/\E=0):=by have h:=a0.out;dsimp only at h;rw [if_neg hC] at h;injection h with S h2;exact ⟨S,h2⟩
      go_wp2_with (first
       | (go_at_call 78;go_must (refine (bodies_any _ xs _ a2.out U.out y).mono ?_);rintro e s ⟨V,rfl,D⟩;go_must (have Z:Hid (SeesB s wr.heap.size xs.length V (bodyL xs)):=Bd.sees y D;have c:=B.trans (D.g.mono hsz);clear D))
       | (go_at_call 79;go_must (refine (rcross_any _ xs _ (HS.out.below c) y _ V (bodyL xs) Z.out a4).mono ?_);rintro e w2 ⟨he,n⟩;go_must (simp only [optI,optN] at he;subst he n))
       | (go_at_call 80;go_must (refine (renter_any _ xs _ (HS.out.below c) y U.out _ V Z.out a1).mono ?_);rintro e w3 ⟨he,O⟩;go_must (simp only [optI,optN] at he;subst he;have Q:=c.trans (O.mono c.size);have a5:Hid (SeesB w3 wr.heap.size xs.length V (bodyL xs)):=SeesB.below Z.out O;clear O))
       | (go_at_call 81;go_must (refine (rcost_any _ xs _ (HS.out.below Q) y U.out _ V a5.out a7).mono ?_);rintro e w4 ⟨he,a6⟩;go_must (subst he a6)))
      go_ret2;exact ⟨r2i HB.out.1.symm HB.out.2.symm,Q⟩
end Go.Proofs.YtmdhljoicnommaaGreat
