
/-
 What the landed judge's arrive does to what is known. Condition: states of eight well made types.
-/
import Derived.Test.YtmdhljoicnommaaGreatMS1
import Derived.Test.YtmdhljoicnommaaGreatMS33
namespace Go.Proofs.YtmdhljoicnommaaGreat
set_option maxHeartbeats 12800000
open Go.RowKit
set_option linter.unusedVariables false
set_option linter.unusedSimpArgs false
set_option maxRecDepth 100000

def joinU (h s:St) (n:Nat):St:=(List.range 8).map fun i=>if i<n then join2 (h.getD i Ty.nil) (s.getD i Ty.nil) else h.getD i Ty.nil
def arrK (K:Kn) (p:Nat) (r:Bool) (s:St):Kn:=if r=false then K else if (K.getD p kn0).1=false then K.set p (r,s) else K.set p ((K.getD p kn0).1,joinU (K.getD p kn0).2 s 8)
theorem qCq (h s:St)(n:Nat):(joinU h s n).length=8:=by simp [joinU]
theorem joinU_at (h s:St){n k:Nat}(a:k<8):(joinU h s n).getD k Ty.nil=if k<n then join2 (h.getD k Ty.nil) (s.getD k Ty.nil) else h.getD k Ty.nil:=by
 unfold joinU
 simp [List.getD,List.getElem?_map,List.getElem?_range a]
theorem joinU_zero {h:St}(s:St)(a:h.length=8):joinU h s 0=h:=by
 apply List.ext_getElem?
 intro i
 by_cases hi:i<8
 ·simp [joinU,List.getElem?_range hi,List.getElem?_eq_getElem (show i<h.length by omega)]
 ·rw [List.getElem?_eq_none (by rw [qCq];omega),List.getElem?_eq_none (by omega)]
theorem joinU_step (h s:St){k:Nat}(a:k<8):joinU h s (k+1)=(joinU h s k).set k (join2 (h.getD k Ty.nil) (s.getD k Ty.nil)):=by
 apply List.ext_getElem?
 intro i;rw [List.getElem?_set]
 by_cases hi:i<8
 ·by_cases hik:k=i
  ·subst hik
   simp [joinU,List.getElem?_range hi,hi]
  ·rw [if_neg hik];simp only [joinU,List.getElem?_map,List.getElem?_range hi,Option.map_some]
   by_cases hl:i<k
   ·rw [if_pos hl,if_pos (by omega)]
   ·rw [if_neg hl,if_neg (by omega)]
 ·rw [List.getElem?_eq_none (by rw [qCq];omega),if_neg (by omega),List.getElem?_eq_none (by rw [qCq];omega)]
theorem kn_set {K:Kn}{p:Nat}{x:Bool×St}(a:p<K.length):(K.set p x).getD p kn0=x:=by simp [List.getD,List.getElem?_set,a]
theorem kn_self {K:Kn}(p:Nat):K.set p (K.getD p kn0)=K:=by
 apply List.ext_getElem?
 intro i;rw [List.getElem?_set]
 by_cases h:p=i
 ·subst h
  by_cases hl:p<K.length
  ·simp [hl,List.getD,List.getElem?_eq_getElem hl]
  ·simp [hl,List.getElem?_eq_none (show K.length<=p by omega)]
 ·rw [if_neg h]
def qC (nm:Nat) (vc vl:Value) (kb n:Nat):List Value:=[.int .i64 nm,vc,vl,.slice (some ⟨kb,0,none⟩) n n]

theorem keepA {w:World}{b kb sb o:Nat}{v:Value}{r:Bool}{s:St}{n:Nat}(h:w.cell? ⟨b,3,none⟩=some v/\StAt w sb 0 r s/\w.there kb o n)(d:b≠kb)(c:sb≠kb)(a:Nat)(vs:List Value) :
  (w.setCells kb a vs).cell? ⟨b,3,none⟩=some v/\StAt (w.setCells kb a vs) sb 0 r s/\(w.setCells kb a vs).there kb o n :=
 ⟨(World.cell?_of_block ((qAd kb vs w a).block b (World.block_lt_of_cell? w _ h.1) (fun e=>d (by injection e)))).trans h.1,World.rangeAt_setCells_apart h.2.1 _ _ _ (.inl c),World.there_setCells h.2.2 _ _ _⟩
theorem ljoined_as {a b t:Ty}(d:Hid (wfS (a.lo,a.hi)))(f:Hid (wfS (b.lo,b.hi)))(h:Hid (join2 a b=t))(w:World):Cl 107 #[tyV a,tyV b] w fun e c=>e=.returned (tyV t)/\Bw w c:=by
 rw [<- h.out];exact ljoined_any a b w d f
theorem keep5 {w b:World}{f a:Nat}{v l k g i:Value}(h:w.cell? ⟨f,3,none⟩=some v/\w.cell? ⟨a,0,none⟩=some l/\w.cell? ⟨a,1,none⟩=some k/\w.cell? ⟨a,2,none⟩=some g/\w.cell? ⟨a,3,none⟩=some i)(c:Bw w b)(n:f<w.heap.size)(d:a<w.heap.size) :
  b.cell? ⟨f,3,none⟩=some v/\b.cell? ⟨a,0,none⟩=some l/\b.cell? ⟨a,1,none⟩=some k/\b.cell? ⟨a,2,none⟩=some g/\b.cell? ⟨a,3,none⟩=some i:=by
 rw [c.cell (p:=⟨f,3,none⟩) n,c.cell (p:=⟨a,0,none⟩) d,c.cell (p:=⟨a,1,none⟩) d,c.cell (p:=⟨a,2,none⟩) d,c.cell (p:=⟨a,3,none⟩) d];exact h
theorem keep5s {w:World}{f a kb o:Nat}{t:Ty}{v l k g i:Value}(h:w.cell? ⟨f,3,none⟩=some v/\w.cell? ⟨a,0,none⟩=some l/\w.cell? ⟨a,1,none⟩=some k/\w.cell? ⟨a,2,none⟩=some g/\w.cell? ⟨a,3,none⟩=some i)(s:f≠kb)(d:a≠kb) :
  (setT w kb o t).cell? ⟨f,3,none⟩=some v/\(setT w kb o t).cell? ⟨a,0,none⟩=some l/\(setT w kb o t).cell? ⟨a,1,none⟩=some k/\(setT w kb o t).cell? ⟨a,2,none⟩=some g/\(setT w kb o t).cell? ⟨a,3,none⟩=some i:=by
 have c:∀ b j u,b≠kb->w.cell? ⟨b,j,none⟩=some u->(setT w kb o t).cell? ⟨b,j,none⟩=some u:=fun b j u n r =>
  (qAd kb (tyC t) w o).cell r (fun e=>n (by injection e))
 exact ⟨c _ _ _ s h.1,c _ _ _ d h.2.1,c _ _ _ d h.2.2.1,c _ _ _ d h.2.2.2.1,c _ _ _ d h.2.2.2.2⟩
theorem larrive_any (qb kb p nm:Nat)(U vl:Value)(K:Kn)(r:Bool)(s:St)(w:World)(u:Hp w qb 147 (qC nm U vl kb K.length))(f:Hp w kb 156 (flatK K))(I:qb≠kb)(y:Eight K)(hp:p<K.length)(d:Made8 nm s)(hK:Made8 nm (K.getD p kn0).2) :
  Cl 74 #[.pointer (some ⟨qb,0,none⟩),I4 p,stV r s] w fun e a=>e=.returned (.tuple #[])/\w.grownBy a (some kb)/\Hp a kb 156 (flatK (arrK K p r s)):=by
 obtain ⟨r0,s0,A⟩:∃ r0 s0,Hid (K.getD p kn0=(r0,s0)):=⟨_,_,rfl⟩;have hz:(stC r s)[0]? = some (.bool r):=rfl;have n:w.cell? ⟨qb,3,none⟩=some (.slice (some ⟨kb,0,none⟩) K.length K.length):=u.cell rfl;have k0:w.cell? ⟨kb,p*33,none⟩=some (.bool r0):=(f.state y hp A.out).cell;have hq1:=u.lt;have aq:=f.lt
 have ap:¬ qb=w.heap.size:=by omega
 have au:¬ w.heap.size=qb:=by omega
 have am:¬ kb=w.heap.size:=by omega
 have ak:¬ w.heap.size=kb:=by omega
 have ai:(p:Int)<K.length:=by omega
 cases r with
 | false =>
  go_enter Tryz.func74,Tryz.ntmps74;go_wp2;exact bodyPost_end (results_none rfl _ _ _) rfl ⟨rfl,World.grownBy_alloc _ _ _,by unfold arrK;rw [if_pos rfl];exact f.alloc _⟩
 | true =>
  cases r0 with
  | false =>
   go_enter Tryz.func74,Tryz.ntmps74;go_wp2;obtain ⟨W,HW,a2,a4,z,T,O⟩:∃ W,Hid (W=w.alloc (Obj.cells (stC true s).toArray 156))/\StAt W w.heap.size 0 true s/\W.cell? ⟨qb,3,none⟩=some (.slice (some ⟨kb,0,none⟩) K.length K.length)/\W.there kb (p*33) 33/\Hid (Hp W kb 156 (flatK K))/\Hid (w.grownBy W (some kb)) :=
    ⟨_,rfl,stAt_new w true s,(u.alloc _).cell rfl,(f.alloc _).there (by rw [flatK_len y];omega),f.alloc _,World.grownBy_alloc _ _ _⟩
   rw [<- HW.out]
   have aj:∀ a,StAt a w.heap.size 0 true s->(Instr.loadAt 156 (.pointer (some ⟨w.heap.size,0,none⟩))).run Tryz.prog a=.ok (stV true s) a:=fun a h=>run_loadAt_mid a _ _ _ _ _ h Tryz.underlying156 rfl (sizeJ d.1)
   have ar:∀ a,a.there kb (p*33) 33->(Instr.storeAt 156 (.pointer (some ⟨kb,p*33,none⟩)) (stV true s)).run Tryz.prog a=.ok () (a.setCells kb (p*33) (stC true s)):=fun a h=>run_storeAt_mid a _ _ _ _ (by rw [qCw true d.1];exact h) (sizeJA d.1) (stC_all true s)
   have a5:w.heap.size≠kb:=by omega
   have L:=keepJ y;have g:=keepJ hp;have c:=keepJ d;clear hz n k0 u f hK y d;refine wp_region_held_drew (S:=fun a=>a.cell? ⟨qb,3,none⟩=some (.slice (some ⟨kb,0,none⟩) K.length K.length)/\StAt a w.heap.size 0 true s/\a.there kb (p*33) 33) (by kernel_rfl) ⟨a4,a2,z⟩ (fun hHeld=>?_);refine tkGo [0,1,2,3,4] ?_
   repeat (refine tkO (v:=?_) rfl ?_ ?_;rotate_left;(intro wy hSw;(try dsimp only at hSw);go_simp;(first|done|with_reducible rfl));try simp only [Act.put,p1q,p2q,p3q,p4q,p5q,p6q])
   refine tkEnd ?_;refine wpAnyH_take (i:=5) rfl (by kernel_rfl) (by kernel_rfl) (by kernel_rfl) (fun _ _ _ h=>h) (yieldsIf_load_mid (by rfl) _ _ rfl _ _ rfl (stC true s) _ (fun w h=>h.2.1) Tryz.underlying156 rfl (sizeJ c.out.1)) (by assumption) ?_
   try simp only [Act.put,p1q,p2q,p3q,p4q,p5q,p6q]
   refine tkGo [6] ?_
   repeat (refine tkO (v:=?_) rfl ?_ ?_;rotate_left;(intro wy hSw;(try dsimp only at hSw);go_simp;(first|done|with_reducible rfl));try simp only [Act.put,p1q,p2q,p3q,p4q,p5q,p6q])
   refine tkEnd ?_;refine runO 7 (by kernel_rfl) rfl (by rfl) (fun KK hK=>?_);refine wp_store_mid _ _ _ rfl _ _ (List.toArray _) rfl rfl (by rw [qCw true c.out.1];exact z) (sizeJA c.out.1) (stC_all true s) ?_;refine hK.out _ _ (keepA (w:=W.drew) ⟨a4,a2,z⟩ I a5 _ _) (fun hHeld=>?_);clear hK KK
   try simp only [Act.put,p1q,p2q,p3q,p4q,p5q,p6q]
   refine wpAnyH_done (by kernel_rfl) ?_ _;go_wp2;refine bodyPost_end (results_none rfl _ _ _) rfl ⟨rfl,qBb O.out (grown_undrew (qAd kb _ W.drew _)),?_⟩;unfold arrK;rw [if_neg (by decide),A.out,if_pos rfl];exact T.out.drew.put L.out g.out true c.out.1
  | true =>
   go_enter Tryz.func74,Tryz.ntmps74
   have HL:Hid ((w.alloc (stO true s)).rangeAt w.heap.size 1 (flatT s)):=by
    have:=(stAt_new w true s).types
    show World.rangeAt _ _ _ _
    simpa using this
   have HZ:Hid ((Tryz.prog.info? 154).map (·.size)=some (flatT s).length):=sizeA8 d.1
   go_wp2_with ((with_reducible refine wpList_load_mid ?qa 154 (.tmp 8) ?qb w.heap.size 1 ?qc (flatT s) _ HL.out Tryz.underlying154 ?qd HZ.out ?qe);(case qa=>rfl);(case qb=>rfl);(case qc=>rfl);(case qd=>rfl))
   obtain ⟨W,HW,a9,T,O,ao⟩:∃ W,Hid (W=w.alloc (Obj.cells (stC true s).toArray 156))/\Hid (Hp W qb 147 (qC nm U vl kb K.length))/\Hid (Hp W kb 156 (flatK K))/\Hid (w.grownBy W (some kb))/\w.heap.size<W.heap.size :=
    ⟨_,rfl,u.alloc _,f.alloc _,World.grownBy_alloc _ _ _,by simp⟩
   rw [<- HW.out];have L:=keepJ y;have g:=keepJ hp;have c:=keepJ d;have Q:=keepJ hK;rw [A.out] at Q;clear hz n k0 u f hK y d HL HZ HW
   go_loopw [10] (fun i wr=>∃ k:Nat,k<=8/\i=I4 k/\Hid (Hp wr kb 156 (flatK (K.set p (true,joinU s0 s k))))/\Hid (W.grownBy wr (some kb))) (fun i _=>8-(intOf i).toNat)
   case atStart=>exact ⟨0,by omega,rfl,by rw [joinU_zero s Q.out.1,show K.set p (true,s0)=K from by rw [<- A.out];exact kn_self p];exact T.out,grownJ_refl _ _⟩
   case round =>
    obtain ⟨k,al,rfl,F,D⟩:=hrel
    by_cases hlt:k<8
    ·obtain ⟨Z,M,N,V,HT⟩:∃ k' lo hi m,Hid (s.getD k Ty.nil=⟨k',lo,hi,m⟩):=⟨_,_,_,_,rfl⟩;obtain ⟨sk,sl,sh,sm,X⟩:∃ k' lo hi m,Hid (s0.getD k Ty.nil=⟨k',lo,hi,m⟩):=⟨_,_,_,_,rfl⟩;obtain ⟨jk,jl,jh,jm,HJ⟩:∃ k' lo hi m,Hid (join2 ⟨sk,sl,sh,sm⟩ ⟨Z,M,N,V⟩=⟨k',lo,hi,m⟩):=⟨_,_,_,_,rfl⟩;have af:=run_index9 c.out.1 hlt HT.out
     have ah:(k:Int)<8:=by omega
     go_wp2;have B:Eight (K.set p (true,joinU s0 s k)):=L.out.set p (qCq _ _ _)
     have E:p<(K.set p (true,joinU s0 s k)).length:=by rw [List.length_set];exact g.out
     have R:(K.set p (true,joinU s0 s k)).getD p kn0=(true,joinU s0 s k):=kn_set g.out;obtain ⟨Y,HY,G,P,ae,aa,b0,b1,b2,b3,a8⟩:∃ Y,Hid (Y=wr.alloc (Obj.cells #[I4 Z,U8 M,U8 N,I4 V] 153))/\Hid (Hp Y qb 147 (qC nm U vl kb K.length))/\Hid (Hp Y kb 156 (flatK (K.set p (true,joinU s0 s k))))/\Hid (W.grownBy Y (some kb))/\wr.heap.size<Y.heap.size /\
      Y.cell? ⟨wr.heap.size,0,none⟩=some (I4 Z)/\Y.cell? ⟨wr.heap.size,1,none⟩=some (U8 M)/\Y.cell? ⟨wr.heap.size,2,none⟩=some (U8 N)/\Y.cell? ⟨wr.heap.size,3,none⟩=some (I4 V)/\wr.heap.size≠kb :=
      ⟨_,rfl,(a9.out.grown D.out (fun e=>I (by injection e))).alloc _,F.out.alloc _,qBb D.out (World.grownBy_alloc _ _ _),by simp,by go_cell,by go_cell,by go_cell,by go_cell,by have:=F.out.lt;omega⟩
     rw [<- HY.out];have n:Y.cell? ⟨qb,3,none⟩=some (.slice (some ⟨kb,0,none⟩) K.length K.length):=G.out.cell rfl;have a3:=(P.out.state B E R).typ (qCq _ _ _) hlt;rw [joinU_at _ _ hlt,if_neg (by omega),X.out] at a3;obtain ⟨e0,e1,e2,e3⟩:=a3;simp only at e0 e1 e2 e3;have a0:=G.out.lt;have ad:=P.out.lt
     have a7:Hid (wfS (sl,sh)):=by have:=Q.out.ends hlt;rw [X.out] at this;exact this
     have ac:Hid (wfS (M,N)):=by have:=c.out.ends hlt;rw [HT.out] at this;exact this
     refine wp_region_held_drew (S:=fun a=>a.cell? ⟨qb,3,none⟩=some (.slice (some ⟨kb,0,none⟩) K.length K.length)/\a.cell? ⟨wr.heap.size,0,none⟩=some (I4 Z)/\a.cell? ⟨wr.heap.size,1,none⟩=some (U8 M)/\a.cell? ⟨wr.heap.size,2,none⟩=some (U8 N)/\a.cell? ⟨wr.heap.size,3,none⟩=some (I4 V)) (by kernel_rfl) ⟨n,b0,b1,b2,b3⟩ (fun hHeld=>?_);refine tkGo [0,1,2,3,4,5,6,7,8,9,10,11,12,13,14,16,18,19] ?_
     repeat (refine tkO (v:=?_) rfl ?_ ?_;rotate_left;(intro wy hSw;(try dsimp only at hSw);go_simp;(first|done|with_reducible rfl));try simp only [Act.put,p1q,p2q,p3q,p4q,p5q,p6q])
     refine tkEnd ?_;refine runO 15 (by kernel_rfl) rfl (by rfl) (fun KK hK=>?_);go_simp;refine hK.out _ _ ⟨n,b0,b1,b2,b3⟩ (fun hHeld=>?_);clear hK KK
     try simp only [Act.put,p1q,p2q,p3q,p4q,p5q,p6q]
     refine runO 17 (by kernel_rfl) rfl (by rfl) (fun KK hK=>?_);go_simp
     go_at_call 107
     refine (ljoined_as a7 ac HJ _).mono ?_;rintro e w3 ⟨rfl,a6⟩;have l:Bw Y w3:=qAf a6;have a1:=keep5 ⟨n,b0,b1,b2,b3⟩ l a0 aa;have ag:Hid (Hp w3 qb 147 (qC nm U vl kb K.length)):=G.out.below l a0;have b:Hid (Hp w3 kb 156 (flatK (K.set p (true,joinU s0 s k)))):=P.out.below l ad;refine hK.out _ _ a1 (fun hHeld=>?_);clear hK KK
     try simp only [Act.put,p1q,p2q,p3q,p4q,p5q,p6q]
     refine tkGo [20] ?_
     repeat (refine tkO (v:=?_) rfl ?_ ?_;rotate_left;(intro wy hSw;(try dsimp only at hSw);go_simp;(first|done|with_reducible rfl));try simp only [Act.put,p1q,p2q,p3q,p4q,p5q,p6q])
     refine tkEnd ?_;have J:=(b.out.state B E R).typ (qCq _ _ _) hlt;rw [joinU_at _ _ hlt,if_neg (by omega),X.out] at J;obtain ⟨m0,m1,m2,m3⟩:=J;simp only at m0 m1 m2 m3;have f0:=b.out.frozen (p*33+1+k*4);have f1:=b.out.frozen (p*33+1+k*4+1);have f2:=b.out.frozen (p*33+1+k*4+2);have f3:=b.out.frozen (p*33+1+k*4+3);have HP:=keepJ (b.out.putT B E R hlt ⟨jk,jl,jh,jm⟩);have ab:=keepJ (keep5s (kb:=kb) (o:=p*33+1+k*4) (t:=⟨jk,jl,jh,jm⟩) a1 I a8);refine runO 21 (by kernel_rfl) rfl (by rfl) (fun KK hK=>?_);go_simp;refine hK.out _ _ ab.out (fun hHeld=>?_);clear hK KK
     try simp only [Act.put,p1q,p2q,p3q,p4q,p5q,p6q]
     refine wpAnyH_done (by kernel_rfl) ?_ _;go_wp2
     go_roundw
     case rel=>exact ⟨k+1,by omega,by go_num,by rw [joinU_step _ _ hlt,X.out,HT.out,HJ.out];have:=HP.out;rw [List.set_set] at this;exact this,qBb (qBb ae.out (qAu l _)) (qAd kb (tyC ⟨jk,jl,jh,jm⟩) w3 _)⟩
     case measure=>simp [intOf];omega
    ·obtain rfl:k=8:=by omega
     go_wp2;refine bodyPost_end (results_none rfl _ _ _) rfl ⟨rfl,qBb O.out D.out,?_⟩;unfold arrK;rw [if_neg (by decide),A.out,if_neg (fun h=>by cases h)];exact F.out
end Go.Proofs.YtmdhljoicnommaaGreat
