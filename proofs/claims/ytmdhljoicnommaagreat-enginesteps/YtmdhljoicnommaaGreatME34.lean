
/-
 What the landed judge's arrive does to what is known. Condition: states of eight well made types.
-/
import Derived.Test.YtmdhljoicnommaaGreatME1
import Derived.Test.YtmdhljoicnommaaGreatME33
namespace Go.Proofs.YtmdhljoicnommaaGreat
set_option maxHeartbeats 12800000
open Go.RowKit
set_option linter.unusedVariables false
set_option linter.unusedSimpArgs false
set_option maxRecDepth 100000

def qFz (h s:St) (n:Nat):St:=(List.range 8).map fun i=>if i<n then qGj (h.getD i Ty.nil) (s.getD i Ty.nil) else h.getD i Ty.nil
def qFg (K:Kn) (p:Nat) (r:Bool) (s:St):Kn:=if r=false then K else if (K.getD p kn0).1=false then K.set p (r,s) else K.set p ((K.getD p kn0).1,qFz (K.getD p kn0).2 s 8)
theorem qGd (h s:St)(n:Nat):(qFz h s n).length=8:=by simp [qFz]
theorem qKk (h s:St){n k:Nat}(a:k<8):(qFz h s n).getD k Ty.nil=if k<n then qGj (h.getD k Ty.nil) (s.getD k Ty.nil) else h.getD k Ty.nil:=by
 unfold qFz
 simp [List.getD,List.getElem?_map,List.getElem?_range a]
theorem yKc {h:St}(s:St)(a:h.length=8):qFz h s 0=h:=by
 apply List.ext_getElem?
 intro i
 by_cases hi:i<8
 ·simp [qFz,List.getElem?_range hi,List.getElem?_eq_getElem (show i<h.length by omega)]
 ·rw [List.getElem?_eq_none (by rw [qGd];omega),List.getElem?_eq_none (by omega)]
theorem yIb (h s:St){k:Nat}(a:k<8):qFz h s (k+1)=(qFz h s k).set k (qGj (h.getD k Ty.nil) (s.getD k Ty.nil)):=by
 apply List.ext_getElem?
 intro i;rw [List.getElem?_set]
 by_cases hi:i<8
 ·by_cases hik:k=i
  ·subst hik
   simp [qFz,List.getElem?_range hi,hi]
  ·rw [if_neg hik];simp only [qFz,List.getElem?_map,List.getElem?_range hi,Option.map_some]
   by_cases hl:i<k
   ·rw [if_pos hl,if_pos (by omega)]
   ·rw [if_neg hl,if_neg (by omega)]
 ·rw [List.getElem?_eq_none (by rw [qGd];omega),if_neg (by omega),List.getElem?_eq_none (by rw [qGd];omega)]
theorem qKf {K:Kn}{p:Nat}{x:Bool×St}(a:p<K.length):(K.set p x).getD p kn0=x:=by simp [List.getD,List.getElem?_set,a]
theorem yGp {K:Kn}(p:Nat):K.set p (K.getD p kn0)=K:=by
 apply List.ext_getElem?
 intro i;rw [List.getElem?_set]
 by_cases h:p=i
 ·subst h
  by_cases hl:p<K.length
  ·simp [hl,List.getD,List.getElem?_eq_getElem hl]
  ·simp [hl,List.getElem?_eq_none (show K.length<=p by omega)]
 ·rw [if_neg h]
def qC (nm:Nat) (vc vl:Value) (kb n:Nat):List Value:=[.int .i64 nm,vc,vl,.slice (some ⟨kb,0,none⟩) n n]

theorem xCj {w:World}{b kb sb o:Nat}{v:Value}{r:Bool}{s:St}{n:Nat}(h:w.cell? ⟨b,3,none⟩=some v/\StAt w sb 0 r s/\w.there kb o n)(d:b≠kb)(c:sb≠kb)(a:Nat)(vs:List Value) :
  (w.setCells kb a vs).cell? ⟨b,3,none⟩=some v/\StAt (w.setCells kb a vs) sb 0 r s/\(w.setCells kb a vs).there kb o n :=
 ⟨(World.cell?_of_block ((qAd kb vs w a).block b (World.block_lt_of_cell? w _ h.1) (fun e=>d (by injection e)))).trans h.1,World.rangeAt_setCells_apart h.2.1 _ _ _ (.inl c),World.there_setCells h.2.2 _ _ _⟩
theorem yKh {a b t:Ty}(f:Hid (wfS (a.lo,a.hi)))(d:Hid (wfS (b.lo,b.hi)))(h:Hid (qGj a b=t))(w:World):Cl 107 #[tyV a,tyV b] w fun e c=>e=.returned (tyV t)/\Bw w c:=by
 rw [<- h.out];exact yEf a b w f d
theorem xCc {w b:World}{f a:Nat}{v k i g l:Value}(h:w.cell? ⟨f,3,none⟩=some v/\w.cell? ⟨a,0,none⟩=some k/\w.cell? ⟨a,1,none⟩=some i/\w.cell? ⟨a,2,none⟩=some g/\w.cell? ⟨a,3,none⟩=some l)(c:Bw w b)(n:f<w.heap.size)(d:a<w.heap.size) :
  b.cell? ⟨f,3,none⟩=some v/\b.cell? ⟨a,0,none⟩=some k/\b.cell? ⟨a,1,none⟩=some i/\b.cell? ⟨a,2,none⟩=some g/\b.cell? ⟨a,3,none⟩=some l:=by
 rw [c.cell (p:=⟨f,3,none⟩) n,c.cell (p:=⟨a,0,none⟩) d,c.cell (p:=⟨a,1,none⟩) d,c.cell (p:=⟨a,2,none⟩) d,c.cell (p:=⟨a,3,none⟩) d];exact h
theorem xBp {w:World}{f a kb o:Nat}{t:Ty}{v k i g l:Value}(h:w.cell? ⟨f,3,none⟩=some v/\w.cell? ⟨a,0,none⟩=some k/\w.cell? ⟨a,1,none⟩=some i/\w.cell? ⟨a,2,none⟩=some g/\w.cell? ⟨a,3,none⟩=some l)(r:f≠kb)(d:a≠kb) :
  (setT w kb o t).cell? ⟨f,3,none⟩=some v/\(setT w kb o t).cell? ⟨a,0,none⟩=some k/\(setT w kb o t).cell? ⟨a,1,none⟩=some i/\(setT w kb o t).cell? ⟨a,2,none⟩=some g/\(setT w kb o t).cell? ⟨a,3,none⟩=some l:=by
 have c:∀ b j u,b≠kb->w.cell? ⟨b,j,none⟩=some u->(setT w kb o t).cell? ⟨b,j,none⟩=some u:=fun b j u n s =>
  (qAd kb (tyC t) w o).cell s (fun e=>n (by injection e))
 exact ⟨c _ _ _ r h.1,c _ _ _ d h.2.1,c _ _ _ d h.2.2.1,c _ _ _ d h.2.2.2.1,c _ _ _ d h.2.2.2.2⟩
theorem yEs (qb kb p nm:Nat)(X V:Value)(K:Kn)(r:Bool)(s:St)(w:World)(n:Hp w qb 147 (qC nm X V kb K.length))(f:Hp w kb 156 (qDw K))(E:qb≠kb)(u:Eight K)(hp:p<K.length)(d:Made8 nm s)(hK:Made8 nm (K.getD p kn0).2) :
  Cl 74 #[.pointer (some ⟨qb,0,none⟩),I4 p,stV r s] w fun e a=>e=.returned (.tuple #[])/\w.grownBy a (some kb)/\Hp a kb 156 (qDw (qFg K p r s)):=by
 obtain ⟨r0,s0,I⟩:∃ r0 s0,Hid (K.getD p kn0=(r0,s0)):=⟨_,_,rfl⟩;have hz:(stC r s)[0]? = some (.bool r):=rfl;have y:w.cell? ⟨qb,3,none⟩=some (.slice (some ⟨kb,0,none⟩) K.length K.length):=n.cell rfl;have k0:w.cell? ⟨kb,p*33,none⟩=some (.bool r0):=(f.state u hp I.out).cell;have hq1:=n.lt;have aj:=f.lt
 have ak:¬ qb=w.heap.size:=by omega
 have aq:¬ w.heap.size=qb:=by omega
 have am:¬ kb=w.heap.size:=by omega
 have ao:¬ w.heap.size=kb:=by omega
 have ap:(p:Int)<K.length:=by omega
 cases r with
 | false =>
  go_enter Tryz.func74,Tryz.ntmps74;go_wp2;exact bodyPost_end (results_none rfl _ _ _) rfl ⟨rfl,World.grownBy_alloc _ _ _,by unfold qFg;rw [if_pos rfl];exact f.alloc _⟩
 | true =>
  cases r0 with
  | false =>
   go_enter Tryz.func74,Tryz.ntmps74;go_wp2;obtain ⟨W,HW,a3,a1,G,z,B⟩:∃ W,Hid (W=w.alloc (Obj.cells (stC true s).toArray 156))/\StAt W w.heap.size 0 true s/\W.cell? ⟨qb,3,none⟩=some (.slice (some ⟨kb,0,none⟩) K.length K.length)/\W.there kb (p*33) 33/\Hid (Hp W kb 156 (qDw K))/\Hid (w.grownBy W (some kb)) :=
    ⟨_,rfl,qQc w true s,(n.alloc _).cell rfl,(f.alloc _).there (by rw [qXn u];omega),f.alloc _,World.grownBy_alloc _ _ _⟩
   rw [<- HW.out]
   have ah:∀ a,StAt a w.heap.size 0 true s->(Instr.loadAt 156 (.pointer (some ⟨w.heap.size,0,none⟩))).run Tryz.prog a=.ok (stV true s) a:=fun a h=>run_loadAt_mid a _ _ _ _ _ h Tryz.underlying156 rfl (qHf d.1)
   have an:∀ a,a.there kb (p*33) 33->(Instr.storeAt 156 (.pointer (some ⟨kb,p*33,none⟩)) (stV true s)).run Tryz.prog a=.ok () (a.setCells kb (p*33) (stC true s)):=fun a h=>run_storeAt_mid a _ _ _ _ (by rw [qGn true d.1];exact h) (qLi d.1) (qIw true s)
   have a6:w.heap.size≠kb:=by omega
   have O:=qAa u;have l:=qAa hp;have c:=qAa d;clear hz y k0 n f hK u d;refine wp_region_held_drew (S:=fun a=>a.cell? ⟨qb,3,none⟩=some (.slice (some ⟨kb,0,none⟩) K.length K.length)/\StAt a w.heap.size 0 true s/\a.there kb (p*33) 33) (by kernel_rfl) ⟨a1,a3,G⟩ (fun hHeld=>?_);refine qBb [0,1,2,3,4] ?_
   repeat (refine tkO (v:=?_) rfl ?_ ?_;rotate_left;(intro wy hSw;(try dsimp only at hSw);go_simp;(first|done|with_reducible rfl));try simp only [Act.put,p1q,p2q,p3q,p4q,p5q,p6q])
   refine qAs ?_;refine wpAnyH_take (i:=5) rfl (by kernel_rfl) (by kernel_rfl) (by kernel_rfl) (fun _ _ _ h=>h) (yieldsIf_load_mid (by rfl) _ _ rfl _ _ rfl (stC true s) _ (fun w h=>h.2.1) Tryz.underlying156 rfl (qHf c.out.1)) (by assumption) ?_
   try simp only [Act.put,p1q,p2q,p3q,p4q,p5q,p6q]
   refine qBb [6] ?_
   repeat (refine tkO (v:=?_) rfl ?_ ?_;rotate_left;(intro wy hSw;(try dsimp only at hSw);go_simp;(first|done|with_reducible rfl));try simp only [Act.put,p1q,p2q,p3q,p4q,p5q,p6q])
   refine qAs ?_;refine qAr 7 (by kernel_rfl) rfl (by rfl) (fun KK hK=>?_);refine wp_store_mid _ _ _ rfl _ _ (List.toArray _) rfl rfl (by rw [qGn true c.out.1];exact G) (qLi c.out.1) (qIw true s) ?_;refine hK.out _ _ (xCj (w:=W.drew) ⟨a1,a3,G⟩ E a6 _ _) (fun hHeld=>?_);clear hK KK
   try simp only [Act.put,p1q,p2q,p3q,p4q,p5q,p6q]
   refine wpAnyH_done (by kernel_rfl) ?_ _;go_wp2;refine bodyPost_end (results_none rfl _ _ _) rfl ⟨rfl,qCd B.out (qHc (qAd kb _ W.drew _)),?_⟩;unfold qFg;rw [if_neg (by decide),I.out,if_pos rfl];exact z.out.drew.put O.out l.out true c.out.1
  | true =>
   go_enter Tryz.func74,Tryz.ntmps74
   have HL:Hid ((w.alloc (stO true s)).rangeAt w.heap.size 1 (qAo s)):=by
    have:=(qQc w true s).types
    show World.rangeAt _ _ _ _
    simpa using this
   have HZ:Hid ((Tryz.prog.info? 154).map (·.size)=some (qAo s).length):=yRi d.1
   go_wp2_with ((with_reducible refine wpList_load_mid ?qa 154 (.tmp 8) ?qb w.heap.size 1 ?qc (qAo s) _ HL.out Tryz.underlying154 ?qd HZ.out ?qe);(case qa=>rfl);(case qb=>rfl);(case qc=>rfl);(case qd=>rfl))
   obtain ⟨W,HW,a8,z,B,al⟩:∃ W,Hid (W=w.alloc (Obj.cells (stC true s).toArray 156))/\Hid (Hp W qb 147 (qC nm X V kb K.length))/\Hid (Hp W kb 156 (qDw K))/\Hid (w.grownBy W (some kb))/\w.heap.size<W.heap.size :=
    ⟨_,rfl,n.alloc _,f.alloc _,World.grownBy_alloc _ _ _,by simp⟩
   rw [<- HW.out];have O:=qAa u;have l:=qAa hp;have c:=qAa d;have Q:=qAa hK;rw [I.out] at Q;clear hz y k0 n f hK u d HL HZ HW
   go_loopw [10] (fun i wr=>∃ k:Nat,k<=8/\i=I4 k/\Hid (Hp wr kb 156 (qDw (K.set p (true,qFz s0 s k))))/\Hid (W.grownBy wr (some kb))) (fun i _=>8-(intOf i).toNat)
   case atStart=>exact ⟨0,by omega,rfl,by rw [yKc s Q.out.1,show K.set p (true,s0)=K from by rw [<- I.out];exact yGp p];exact z.out,qIz _ _⟩
   case round =>
    obtain ⟨k,ar,rfl,J,P⟩:=hrel
    by_cases hlt:k<8
    ·obtain ⟨U,M,L,tm,HT⟩:∃ k' lo hi m,Hid (s.getD k Ty.nil=⟨k',lo,hi,m⟩):=⟨_,_,_,_,rfl⟩;obtain ⟨sk,sl,sh,sm,HS⟩:∃ k' lo hi m,Hid (s0.getD k Ty.nil=⟨k',lo,hi,m⟩):=⟨_,_,_,_,rfl⟩;obtain ⟨jk,jl,jh,jm,HJ⟩:∃ k' lo hi m,Hid (qGj ⟨sk,sl,sh,sm⟩ ⟨U,M,L,tm⟩=⟨k',lo,hi,m⟩):=⟨_,_,_,_,rfl⟩;have ag:=qWe c.out.1 hlt HT.out
     have ai:(k:Int)<8:=by omega
     go_wp2;have A:Eight (K.set p (true,qFz s0 s k)):=O.out.set p (qGd _ _ _)
     have R:p<(K.set p (true,qFz s0 s k)).length:=by rw [List.length_set];exact l.out
     have N:(K.set p (true,qFz s0 s k)).getD p kn0=(true,qFz s0 s k):=qKf l.out;obtain ⟨Y,HY,T,D,a9,ad,b0,b1,b2,b3,ac⟩:∃ Y,Hid (Y=wr.alloc (Obj.cells #[I4 U,U8 M,U8 L,I4 tm] 153))/\Hid (Hp Y qb 147 (qC nm X V kb K.length))/\Hid (Hp Y kb 156 (qDw (K.set p (true,qFz s0 s k))))/\Hid (W.grownBy Y (some kb))/\wr.heap.size<Y.heap.size /\
      Y.cell? ⟨wr.heap.size,0,none⟩=some (I4 U)/\Y.cell? ⟨wr.heap.size,1,none⟩=some (U8 M)/\Y.cell? ⟨wr.heap.size,2,none⟩=some (U8 L)/\Y.cell? ⟨wr.heap.size,3,none⟩=some (I4 tm)/\wr.heap.size≠kb :=
      ⟨_,rfl,(a8.out.grown P.out (fun e=>E (by injection e))).alloc _,J.out.alloc _,qCd P.out (World.grownBy_alloc _ _ _),by simp,by go_cell,by go_cell,by go_cell,by go_cell,by have:=J.out.lt;omega⟩
     rw [<- HY.out];have y:Y.cell? ⟨qb,3,none⟩=some (.slice (some ⟨kb,0,none⟩) K.length K.length):=T.out.cell rfl;have a0:=(D.out.state A R N).typ (qGd _ _ _) hlt;rw [qKk _ _ hlt,if_neg (by omega),HS.out] at a0;obtain ⟨e0,e1,e2,e3⟩:=a0;simp only at e0 e1 e2 e3;have a4:=T.out.lt;have aa:=D.out.lt
     have a7:Hid (wfS (sl,sh)):=by have:=Q.out.ends hlt;rw [HS.out] at this;exact this
     have ab:Hid (wfS (M,L)):=by have:=c.out.ends hlt;rw [HT.out] at this;exact this
     refine wp_region_held_drew (S:=fun a=>a.cell? ⟨qb,3,none⟩=some (.slice (some ⟨kb,0,none⟩) K.length K.length)/\a.cell? ⟨wr.heap.size,0,none⟩=some (I4 U)/\a.cell? ⟨wr.heap.size,1,none⟩=some (U8 M)/\a.cell? ⟨wr.heap.size,2,none⟩=some (U8 L)/\a.cell? ⟨wr.heap.size,3,none⟩=some (I4 tm)) (by kernel_rfl) ⟨y,b0,b1,b2,b3⟩ (fun hHeld=>?_);refine qBb [0,1,2,3,4,5,6,7,8,9,10,11,12,13,14,16,18,19] ?_
     repeat (refine tkO (v:=?_) rfl ?_ ?_;rotate_left;(intro wy hSw;(try dsimp only at hSw);go_simp;(first|done|with_reducible rfl));try simp only [Act.put,p1q,p2q,p3q,p4q,p5q,p6q])
     refine qAs ?_;refine qAr 15 (by kernel_rfl) rfl (by rfl) (fun KK hK=>?_);go_simp;refine hK.out _ _ ⟨y,b0,b1,b2,b3⟩ (fun hHeld=>?_);clear hK KK
     try simp only [Act.put,p1q,p2q,p3q,p4q,p5q,p6q]
     refine qAr 17 (by kernel_rfl) rfl (by rfl) (fun KK hK=>?_);go_simp
     go_at_call 107
     refine (yKh a7 ab HJ _).mono ?_;rintro e Z ⟨rfl,a5⟩;have g:Bw Y Z:=qAg a5;have a2:=xCc ⟨y,b0,b1,b2,b3⟩ g a4 ad;have af:Hid (Hp Z qb 147 (qC nm X V kb K.length)):=T.out.below g a4;have b:Hid (Hp Z kb 156 (qDw (K.set p (true,qFz s0 s k)))):=D.out.below g aa;refine hK.out _ _ a2 (fun hHeld=>?_);clear hK KK
     try simp only [Act.put,p1q,p2q,p3q,p4q,p5q,p6q]
     refine qBb [20] ?_
     repeat (refine tkO (v:=?_) rfl ?_ ?_;rotate_left;(intro wy hSw;(try dsimp only at hSw);go_simp;(first|done|with_reducible rfl));try simp only [Act.put,p1q,p2q,p3q,p4q,p5q,p6q])
     refine qAs ?_;have F:=(b.out.state A R N).typ (qGd _ _ _) hlt;rw [qKk _ _ hlt,if_neg (by omega),HS.out] at F;obtain ⟨m0,m1,m2,m3⟩:=F;simp only at m0 m1 m2 m3;have f0:=b.out.frozen (p*33+1+k*4);have f1:=b.out.frozen (p*33+1+k*4+1);have f2:=b.out.frozen (p*33+1+k*4+2);have f3:=b.out.frozen (p*33+1+k*4+3);have HP:=qAa (b.out.putT A R N hlt ⟨jk,jl,jh,jm⟩);have ae:=qAa (xBp (kb:=kb) (o:=p*33+1+k*4) (t:=⟨jk,jl,jh,jm⟩) a2 E ac);refine qAr 21 (by kernel_rfl) rfl (by rfl) (fun KK hK=>?_);go_simp;refine hK.out _ _ ae.out (fun hHeld=>?_);clear hK KK
     try simp only [Act.put,p1q,p2q,p3q,p4q,p5q,p6q]
     refine wpAnyH_done (by kernel_rfl) ?_ _;go_wp2
     go_roundw
     case rel=>exact ⟨k+1,by omega,by go_num,by rw [yIb _ _ hlt,HS.out,HT.out,HJ.out];have:=HP.out;rw [List.set_set] at this;exact this,qCd (qCd a9.out (qBz g _)) (qAd kb (tyC ⟨jk,jl,jh,jm⟩) Z _)⟩
     case measure=>simp [intOf];omega
    ·obtain rfl:k=8:=by omega
     go_wp2;refine bodyPost_end (results_none rfl _ _ _) rfl ⟨rfl,qCd B.out P.out,?_⟩;unfold qFg;rw [if_neg (by decide),I.out,if_neg (fun h=>by cases h)];exact J.out
end Go.Proofs.YtmdhljoicnommaaGreat
