/-
  S10Book3
  S10Book4
-/
import Derived.Test.YtmdhljoicnommaaGreatME1
import Derived.Test.YtmdhljoicnommaaGreatME28
namespace Go.Proofs.YtmdhljoicnommaaGreat
set_option maxHeartbeats 12800000
open Go.RowKit
set_option linter.unusedVariables false
set_option linter.unusedSimpArgs false
set_option maxRecDepth 100000
theorem qOj {P:Program}(w:World){o:Oper}{a:Act}{K:Act->World->Prop}{Q:Exit->Act->World->Prop}(s x:Operand)(t:TypeId)(J:o.op=.call { callee:=.builtin .append,args:=#[s,x],argTypes:=#[t,t] })(base:Nat)(e:TypeId)(i:TypeInfo)(z:Value)(size bytes:Nat)(N:P.underlying t=some (.slice e))(hi:P.info? e=some i)(S:i.zero=some z)(l:i.size=size)(D:i.bytes=bytes)(E:z.cells.size=size)(hsz:0<size)(v:Value)(n:Nat)(xs:List Value)(F:a.eval s=v)(y:w.ownsRow base e size v n xs)(A:Addr)(m c:Nat)(b:List Value)(O:a.eval x=.slice (some A) m c)(M:b.length=m*size)(r:∀ j u,b[j]? = some u->w.cell? (A.add j)=some u)(R:∀ u∈b,u.oneCell'=true)(B:n+m<=maxLen)(f:(n+m)*bytes<=140737488355328)(k:base<=w.heap.size)(h:∀ d g,g.ownsRow base e size d (n+m) (xs++b)->w.grownBy g v.ownBlock->(d.ownBlock=v.ownBlock∨d.ownBlock=some w.heap.size)->K (a.put o.dst d) g):o.wp P a w K Q:=by
 obtain ⟨d,g,I,L,T,U,G⟩:=run_append_own_at (P:=P) w base t o.type e i z size bytes N hi S l D E hsz v n xs y A m c b M r R B f k;unfold Oper.wp execOp;simp only [J,resolve,invoke,builtin,Sem.run_bind,Sem.run_pure,Result.andThen_ok,List.map_toArray,List.map_cons,List.map_nil,F,O,I];exact h d g L T G
theorem Bk.chg {w a:World}{B c:Nat}{v:Value}{ks:List Ak}{S:Nat->Prop}(h:Bk w B c v ks)(b:Chg w a S)(d:¬ S c)(f:∀ k,v.ownBlock=some k->¬ S k):Bk a B c v ks:=⟨h.hp.chg b d,qSy h.row b f⟩
theorem Bk.drew {w:World}{B c:Nat}{v:Value}{ks:List Ak}(h:Bk w B c v ks):Bk w.drew B c v ks:=⟨h.hp.drew,h.row⟩
theorem Chg.drew {w a:World}{S:Nat->Prop}(h:Chg w a S):Chg w a.drew S:=⟨h.os,h.tape,h.output,h.size,h.block⟩
theorem Chg.undrew {w a:World}{S:Nat->Prop}(h:Chg w.drew a S):Chg w a S:=⟨h.os,h.tape,h.output,h.size,h.block⟩
theorem yJr {B c:Nat}{v u:Value}{ks:List Ak}{xs:List Int}(w:World)(h:Bk w B c v ks)(hB:B<=w.heap.size)(E:ks.length<=90000)(hs:Sees .u64 w u xs)(a2:∀ b,Chg w b (bkS c v)->Sees .u64 b u xs){m:Nat}(a4:(m:Int)=min (xs.length:Int) 16) :
  Cl 15 #[.pointer (some ⟨c,0,none⟩),u] w fun e b=>e=.returned (.tuple #[])/\∃ r,Bk b B c r (qDg ks xs m)/\Chg w b (bkS c v)/\RowNew w v r:=by
 obtain ⟨i6,a5,R,T,a3⟩:=info_parts (P:=Tryz.prog) (e:=98) (z:=.agg #[I4 0,I4 0,U8 0]) (size:=3) (bytes:=24) rfl;have HH:Hid (Bk w B c v ks):=h;obtain ⟨a,cap,rfl,am,aa,ab,ae,y⟩:=hs;unfold maxLen at aa;have HO:Hid (∀ b,Chg w b (bkS c v)->Sees .u64 b (.slice a xs.length cap) xs):=a2
 have a6:m<=xs.length:=by omega
 have ag:m<=16:=by omega
 have a8:Hid ((m:Int)=min (xs.length:Int) 16):=a4;clear h a2 y ae ab a4;go_enter Tryz.func15,Tryz.ntmps15;go_wp2
 go_loopw [4] (fun i wr=>∃ k:Nat,k<=m/\i=I4 k/\Hid (∃ r,Bk wr B c r (qDg ks xs k)/\Chg w wr (bkS c v)/\RowNew w v r)) (fun i _=>m-(intOf i).toNat)
 case atStart=>exact ⟨0,by omega,rfl,v,HH.out,Chg.refl _ _,.inl rfl⟩
 case round =>
  obtain ⟨k,E,rfl,HR⟩:=hrel;obtain ⟨v1,s,A,N⟩:=HR.out
  by_cases hlt:k<m
  ·have K:Hid (Bk wr B c v1 (qDg ks xs k)):=s;have D:Hid (Chg w wr (bkS c v)):=A;have n:Hid (RowNew w v v1):=N;obtain ⟨a',a9,hv,_,_,_,_,y⟩:=HO.out wr A;obtain ⟨g,off,ha,ak,Q⟩:=y (fun e=>by rw [e] at a6;simp at a6;omega);injection hv with e1 e2 e3;subst e1 e3;subst ha;have c1:=Q k (by omega);obtain ⟨x,HX⟩:∃ x,Hid (xs.getD k 0=x):=⟨_,rfl⟩;rw [HX.out] at c1;obtain ⟨U,V,ad⟩:=qKx s.row;have c0:wr.cell? ⟨c,0,none⟩=some v1:=s.hp.cell rfl;have a7:=qTg ks xs k
   have ai:B<=wr.heap.size:=by have:=A.size;omega
   have ac:(k:Int)<16:=by omega
   have a0:(k:Int)<xs.length:=by omega
   have J:Hid ((qDg ks xs k).length<=100000):=by show _<=_;omega
   subst ad;obtain ⟨n1,HN⟩:∃ n1,Hid ((qDg ks xs k).length=n1):=⟨_,rfl⟩;rw [HN.out] at c0 K n J
   have O:Hid (∀ b,Chg w b (bkS c v)->b.cell? ⟨g,off+k,none⟩=some (U8 x)):=fun b af=>by
    obtain ⟨a',a9,hv,_,_,_,_,y⟩:=HO.out b af;obtain ⟨g',ah,ha,_,Q⟩:=y (fun e=>by rw [e] at a0;simp at a0;omega);injection hv with e1 e2 e3;subst e1;injection ha with ha;injection ha with e4 e5;subst e4 e5;rw [<- HX.out];exact Q k (by omega)
   have X:(wr.alloc (Obj.cells #[I4 3,I4 k,U8 x] 98)).cell? ⟨g,off+k,none⟩=some (U8 x):=Lib.cell?_alloc_some _ c1;have al:(wr.alloc (Obj.cells #[I4 3,I4 k,U8 x] 98)).cell? ⟨c,0,none⟩=some (.slice U n1 V):=Lib.cell?_alloc_some _ c0;clear Q y s A N HR a7;go_wp2;refine wp_region_held_drew (S:=fun b=>b.cell? ⟨g,off+k,none⟩=some (U8 x)) (by kernel_rfl) c1 (fun hHeld=>?_);refine qBb [0,1,2,3,5,6,7,8,9,10] ?_
   repeat (refine tkO (v:=?_) rfl ?_ ?_;rotate_left;(intro wy hSw;(try dsimp only at hSw);go_simp;(first|done|with_reducible rfl));try simp only [Act.put,p1q,p2q,p3q,p4q,p5q,p6q])
   refine qAs ?_;refine qOc 4 11 (by kernel_rfl) rfl rfl (by rfl) (by rfl) (fun KK hK=>?_) (fun KK hK=>?_)
   ·go_simp;refine hK.out _ _ c1 (fun hHeld=>?_);clear hK KK
    try simp only [Act.put,p1q,p2q,p3q,p4q,p5q,p6q]
    refine qAr 11 (by kernel_rfl) rfl (by rfl) (fun KK hK=>?_);go_simp;refine hK.out _ _ X (fun hHeld=>?_);clear hK KK
    try simp only [Act.put,p1q,p2q,p3q,p4q,p5q,p6q]
    refine qAr 12 (by kernel_rfl) rfl (by rfl) (fun KK hK=>?_);have eN:=HN.out;subst eN;refine qOj _ (.tmp 19) (.tmp 26) 62 rfl B 98 i6 _ 3 24 Tryz.underlying62 a5 R T a3 rfl (by decide) (.slice U (qDg ks xs k).length V) (qDg ks xs k).length (qJu (qDg ks xs k)) rfl (K.out.row.alloc _) ⟨wr.heap.size,0,none⟩ 1 1 (akC ⟨3,k,x⟩) rfl rfl (qMm wr ⟨3,k,x⟩ _) (qLc _) (by have:=J.out;unfold maxLen;omega) (by have:=J.out;omega) (by simp;omega) ?_;intro r b d M l;obtain ⟨wa,wc,rfl⟩:=qKx d;obtain ⟨Z,Y,r3,r4,r5⟩:=K.out.put (a:=⟨3,k,x⟩) (qHc M) d l;have G:=D.out.trans Y (fun j f E=>n.out.old f E);have I:=n.out.trans r3 D.out.size;have F:Chg w b (bkS c v):=D.out.trans ((Chg.of_below (S:=bkS c (.slice U (qDg ks xs k).length V)) (qGr wr _)).trans (Chg.of_grown' (qHc M) (fun j f=>.inr f)) (fun _ _ e=>e)) (fun j f E=>n.out.old f E);have HE:Hid _:=Z;have o:Hid _:=G;have L:Hid _:=I;refine hK.out _ _ (O.out b F) (fun hHeld=>?_);clear hK KK Z Y r3 G I F d M l
    try simp only [Act.put,p1q,p2q,p3q,p4q,p5q,p6q]
    refine qBb [13,14] ?_
    repeat (refine tkO (v:=?_) rfl ?_ ?_;rotate_left;(intro wy hSw;(try dsimp only at hSw);go_simp;(first|done|with_reducible rfl));try simp only [Act.put,p1q,p2q,p3q,p4q,p5q,p6q])
    refine qAs ?_;refine qAr 15 (by kernel_rfl) rfl (by rfl) (fun KK hK=>?_);go_simp;refine hK.out _ _ (O.out _ o.out) (fun hHeld=>?_);clear hK KK
    try simp only [Act.put,p1q,p2q,p3q,p4q,p5q,p6q]
    refine wpAnyH_done (by kernel_rfl) ?_ _;go_wp2
    go_roundw
    case rel=>exact ⟨k+1,by omega,by go_num,_,by rw [show qDg ks xs (k+1)=qDg ks xs k++[⟨3,k,xs.getD k 0⟩] from rfl,HX.out];exact HE.out,o.out,L.out⟩
    case measure=>simp [intOf];omega
   ·go_simp;refine hK.out _ _ X (fun hHeld=>?_);clear hK KK
    try simp only [Act.put,p1q,p2q,p3q,p4q,p5q,p6q]
    refine qAr 4 (by kernel_rfl) rfl (by rfl) (fun KK hK=>?_);go_simp;refine hK.out _ _ X (fun hHeld=>?_);clear hK KK
    try simp only [Act.put,p1q,p2q,p3q,p4q,p5q,p6q]
    refine qAr 12 (by kernel_rfl) rfl (by rfl) (fun KK hK=>?_);have eN:=HN.out;subst eN;refine qOj _ (.tmp 19) (.tmp 26) 62 rfl B 98 i6 _ 3 24 Tryz.underlying62 a5 R T a3 rfl (by decide) (.slice U (qDg ks xs k).length V) (qDg ks xs k).length (qJu (qDg ks xs k)) rfl (K.out.row.alloc _) ⟨wr.heap.size,0,none⟩ 1 1 (akC ⟨3,k,x⟩) rfl rfl (qMm wr ⟨3,k,x⟩ _) (qLc _) (by have:=J.out;unfold maxLen;omega) (by have:=J.out;omega) (by simp;omega) ?_;intro r b d M l;obtain ⟨wa,wc,rfl⟩:=qKx d;obtain ⟨Z,Y,r3,r4,r5⟩:=K.out.put (a:=⟨3,k,x⟩) (qHc M) d l;have G:=D.out.trans Y (fun j f E=>n.out.old f E);have I:=n.out.trans r3 D.out.size;have F:Chg w b (bkS c v):=D.out.trans ((Chg.of_below (S:=bkS c (.slice U (qDg ks xs k).length V)) (qGr wr _)).trans (Chg.of_grown' (qHc M) (fun j f=>.inr f)) (fun _ _ e=>e)) (fun j f E=>n.out.old f E);have HE:Hid _:=Z;have o:Hid _:=G;have L:Hid _:=I;refine hK.out _ _ (O.out b F) (fun hHeld=>?_);clear hK KK Z Y r3 G I F d M l
    try simp only [Act.put,p1q,p2q,p3q,p4q,p5q,p6q]
    refine qBb [13,14] ?_
    repeat (refine tkO (v:=?_) rfl ?_ ?_;rotate_left;(intro wy hSw;(try dsimp only at hSw);go_simp;(first|done|with_reducible rfl));try simp only [Act.put,p1q,p2q,p3q,p4q,p5q,p6q])
    refine qAs ?_;refine qAr 15 (by kernel_rfl) rfl (by rfl) (fun KK hK=>?_);go_simp;refine hK.out _ _ (O.out _ o.out) (fun hHeld=>?_);clear hK KK
    try simp only [Act.put,p1q,p2q,p3q,p4q,p5q,p6q]
    refine wpAnyH_done (by kernel_rfl) ?_ _;go_wp2
    go_roundw
    case rel=>exact ⟨k+1,by omega,by go_num,_,by rw [show qDg ks xs (k+1)=qDg ks xs k++[⟨3,k,xs.getD k 0⟩] from rfl,HX.out];exact HE.out,o.out,L.out⟩
    case measure=>simp [intOf];omega
  ·obtain rfl:k=m:=by omega
   have a1:Hid (∃ r,Bk wr B c r (qDg ks xs k)/\Chg w wr (bkS c v)/\RowNew w v r):=⟨v1,s,A,N⟩;clear s A N HR hlt
   by_cases ac:(k:Int)<16
   ·have aj:¬ (k:Int)<xs.length:=by have:=a8.out;omega
    go_wp2;exact bodyPost_end (results_none rfl _ _ _) rfl ⟨rfl,a1.out⟩
   ·by_cases a0:(k:Int)<xs.length
    ·go_wp2;exact bodyPost_end (results_none rfl _ _ _) rfl ⟨rfl,a1.out⟩
    ·go_wp2;exact bodyPost_end (results_none rfl _ _ _) rfl ⟨rfl,a1.out⟩
theorem Bk.below {w a:World}{B c:Nat}{v:Value}{ks:List Ak}(h:Bk w B c v ks)(b:Bw w a):Bk a B c v ks:=⟨h.hp.below b h.hp.lt,qCn h.row b (Nat.le_refl _)⟩
end Go.Proofs.YtmdhljoicnommaaGreat
