/-
  JMade
  JWrit
  JRef
-/
import Derived.Test.YtmdhljoicnommaaGreatMS33
import Derived.Test.YtmdhljoicnommaaGreatMS18
import Derived.Test.YtmdhljoicnommaaGreatMS22
namespace Go.Proofs.YtmdhljoicnommaaGreat
set_option maxHeartbeats 12800000
open Go.RowKit
set_option linter.unusedVariables false
set_option linter.unusedSimpArgs false
set_option maxRecDepth 100000
def madeT (i:In) (s:St):Ty:=if i.op=0 then srcT i s else if i.op=11∨i.op=13 then fullT else if i.op=14 then ⟨2,0,0,i.imm⟩ else if i.op=21 then (resL i.imm).1 else doT i.op (regT s i.a) (srcT i s)
theorem boxes3 (w:World)(r:Bool)(s:St)(op d a b c:Int):∃ Z,Hid (Z=((w.alloc (Obj.cells (stC r s).toArray 156)).alloc (instO op d a b c)).alloc (Obj.cells #[I4 0,U8 0,U8 0,I4 0] 153))/\Hid (Hp Z w.heap.size 156 (stC r s))/\Hid (Box Z (w.heap.size+1) op d a b c)/\Hid (BxT Z (w.heap.size+1+1) 0 ⟨0,0,0,0⟩)/\Hid (Bw w Z)/\(Z.heap.size<=w.heap.size+3/\w.heap.size+3<=Z.heap.size) :=
 ⟨_,rfl,((Hp.new w (stC r s) _).alloc _).alloc _,⟨by go_cell,by go_cell,by go_cell,by go_cell,by go_cell⟩,⟨⟨by go_cell,by go_cell,by go_cell,by go_cell⟩,by go_simp,by go_simp,by go_simp,by go_simp⟩,keepJ (by go_grown),by simp⟩
theorem BxT.open {w:World}{n:Nat}{t:Ty}(h:BxT w n 0 t):w.cell? ⟨n,0,none⟩=some (I4 t.k)/\w.cell? ⟨n,1,none⟩=some (U8 t.lo)/\w.cell? ⟨n,2,none⟩=some (U8 t.hi)/\w.cell? ⟨n,3,none⟩=some (I4 t.m)/\w.frozen? ⟨n,0,none⟩=false/\w.frozen? ⟨n,1,none⟩=false/\w.frozen? ⟨n,2,none⟩=false/\w.frozen? ⟨n,3,none⟩=false:=by
 obtain ⟨⟨h0,c,f,b⟩,a,g,d,i⟩:=h;exact ⟨h0,c,f,b,a,g,d,i⟩
theorem lsource_as {i:In}{t:Ty}{s:St}(h:Hid (srcT i s=t))(r:Bool)(w:World)(d:s.length=8)(c:i.b=8∨(0<=i.b/\i.b<=7)):Cl 110 #[stV r s,i.v] w fun e a=>e=.returned (tyV t)/\Bw w a:=by
 rw [<- h.out];exact lsource_any i r s w d c
theorem lmade_set (nm:Nat)(d a b c:Int)(r:Bool)(s:St)(w:World)(D:Made8 nm s)(K:b=8∨(0<=b/\b<=7)):Cl 142 #[stV r s,In.v ⟨0,d,a,b,c⟩] w fun e M=>e=.returned (tyV (srcT ⟨0,d,a,b,c⟩ s))/\Bw w M:=by
 obtain ⟨F,I,J,G,n⟩:∃ k lo hi m,Hid (srcT ⟨0,d,a,b,c⟩ s=⟨k,lo,hi,m⟩):=⟨_,_,_,_,rfl⟩;rw [n.out];obtain ⟨Z,u,o,l,A,g,N⟩:=boxes3 w r s 0 d a b c;obtain ⟨V,T,y2,Q,y4⟩:=l.out
 have E:Hid ((((w.alloc (Obj.cells (stC r s).toArray 156)).alloc (instO 0 d a b c)).alloc (Obj.cells #[I4 0,U8 0,U8 0,I4 0] 153)).rangeAt w.heap.size 0 (stC r s)):=by
  have:=o.out.one;rw [u.out] at this;exact this
 have z:=keepJ (sizeJ (r:=r) D.1);go_enter Tryz.func142,Tryz.ntmps142
 go_wp2_with (first
  | ((with_reducible refine wpList_load_mid ?qa 156 (.tmp 2) ?qb w.heap.size 0 ?qc (stC r s) _ E.out Tryz.underlying156 ?qd z.out ?qe);(case qa=>rfl);(case qb=>rfl);(case qc=>rfl);(case qd=>rfl);rw [<- u.out])
  | (go_at_call 110;go_must (refine (lsource_as (i:=⟨0,d,a,b,c⟩) n r _ D.1 K).mono ?_);rintro e L ⟨rfl,f⟩;go_must (have y:Hid (BxT L (w.heap.size+1+1) 0 ⟨0,0,0,0⟩):=BxT.below A.out f (by omega);have B:=g.out.trans (f.mono g.out.size);obtain ⟨P,S,R,O,U,Y,X,f3⟩:=BxT.open y.out;clear f)))
 exact qBx rfl rfl (t:=⟨F,I,J,G⟩) y.out B (by omega)
theorem lmade_full11 (d a b i:Int)(r:Bool)(s:St)(w:World):Cl 142 #[stV r s,In.v ⟨11,d,a,b,i⟩] w fun e z=>e=.returned (tyV fullT)/\Bw w z:=by
 obtain ⟨Z,y,B,A,o,k,D⟩:=boxes3 w r s 11 d a b i;go_enter Tryz.func142,Tryz.ntmps142
 go_wp2_with (first
  | (go_at_call 133;rw [<- y.out];go_must (refine (qBw _).mono ?_);rintro e M ⟨rfl,f⟩)
  | (go_at_call 131;go_must (refine (qCf _ _ _).mono ?_);rintro e l ⟨rfl,g⟩;go_must (have c:Bw Z l:=f.trans (g.mono f.size);have n:Hid (BxT l (w.heap.size+1+1) 0 ⟨0,0,0,0⟩):=BxT.below o.out c (by omega);have u:=k.out.trans (c.mono k.out.size);obtain ⟨F,I,G,E,J,L,K,f3⟩:=BxT.open n.out;clear f g c)))
 exact qBx rfl rfl (t:=fullT) n.out u (by omega)
theorem lmade_full13 (d a b i:Int)(r:Bool)(s:St)(w:World):Cl 142 #[stV r s,In.v ⟨13,d,a,b,i⟩] w fun e z=>e=.returned (tyV fullT)/\Bw w z:=by
 obtain ⟨Z,y,B,A,o,k,D⟩:=boxes3 w r s 13 d a b i;go_enter Tryz.func142,Tryz.ntmps142
 go_wp2_with (first
  | (go_at_call 133;rw [<- y.out];go_must (refine (qBw _).mono ?_);rintro e M ⟨rfl,f⟩)
  | (go_at_call 131;go_must (refine (qCf _ _ _).mono ?_);rintro e l ⟨rfl,g⟩;go_must (have c:Bw Z l:=f.trans (g.mono f.size);have n:Hid (BxT l (w.heap.size+1+1) 0 ⟨0,0,0,0⟩):=BxT.below o.out c (by omega);have u:=k.out.trans (c.mono k.out.size);obtain ⟨F,I,G,E,J,L,K,f3⟩:=BxT.open n.out;clear f g c)))
 exact qBx rfl rfl (t:=fullT) n.out u (by omega)
theorem lmade_map (d a b c:Int)(r:Bool)(s:St)(w:World):Cl 142 #[stV r s,In.v ⟨14,d,a,b,c⟩] w fun e f=>e=.returned (tyV ⟨2,0,0,c⟩)/\Bw w f:=by
 go_enter Tryz.func142,Tryz.ntmps142;go_wp2;refine bodyPost_ret (v:=tyV ⟨2,0,0,c⟩) ?_ rfl ⟨rfl,by go_grown⟩;rw [qAm rfl]
 simp [asAddr,Result.andThen]
 rw [qCm (k:=2) (lo:=0) (hi:=0) (m:=c)]
 refine ⟨?_,?_,?_,?_⟩<;>go_cell
theorem box_ret1a {c:Func}{p:Tmp}{w a:World}{n B:Nat}{b:Array Value}{r t:Ty}{o:Obj}(i:c.results=#[.cell p 153])(f:b.getD p undef=.pointer (some ⟨n,0,none⟩))(d:BxT a n 0 r)(l:Below B w a)(g:B<=n):bodyPost Tryz.prog c (fun e k=>e=.returned (tyV t)/\Below B w k) .ret ⟨b,[]⟩ ((setT a n 0 t).alloc o):=by
 have s:n<a.heap.size:=World.block_lt_of_cell? a _ d.1.1;have u:a.heap.size<=(setT a n 0 t).heap.size:=(qAd n (tyC t) a 0).size;refine bodyPost_ret (v:=tyV t) ?_ rfl ⟨rfl,(qAn l g).alloc (by omega) _⟩;rw [qAm i,f];simp only [asAddr,Sem.run_pure,Result.andThen];rw [qCm ((d.1.set t).below ((Below.refl _ _).alloc (Nat.le_refl _) o) (by omega))]
theorem result_as {h k lo hi m:Int}{a:Bool}(c:Hid (resL h=(⟨k,lo,hi,m⟩,a)))(w:World):Cl 156 #[I4 h] w fun e b=>e=.returned (.tuple #[tyV ⟨k,lo,hi,m⟩,.bool a])/\Bw w b:=by
 have:=result_any h w;rw [c.out] at this;exact this
theorem lmade_call (d a b f:Int)(r:Bool)(s:St)(w:World):Cl 142 #[stV r s,In.v ⟨21,d,a,b,f⟩] w fun e A=>e=.returned (tyV (resL f).1)/\Bw w A:=by
 obtain ⟨k,lo,hi,m,n,l⟩:∃ k lo hi m n,Hid (resL f=(⟨k,lo,hi,m⟩,n)):=⟨_,_,_,_,_,rfl⟩;rw [l.out];obtain ⟨Z,z,F,D,u,i,G⟩:=boxes3 w r s 21 d a b f;go_enter Tryz.func142,Tryz.ntmps142
 go_wp2_with (first
  | (go_at_call 156;rw [<- z.out];go_must (refine (result_as l _).mono ?_);rintro e g ⟨rfl,c⟩;go_must (have o:Hid (BxT g (w.heap.size+1+1) 0 ⟨0,0,0,0⟩):=BxT.below u.out c (by omega);have y:=i.out.trans (c.mono i.out.size);have E:=c.size;obtain ⟨L,N,M,K,O,Q,P,f3⟩:=BxT.open o.out;have J:¬ w.heap.size+1+1=g.heap.size:=(by omega);have I:¬ g.heap.size=w.heap.size+1+1:=(by omega);have B:w.heap.size+1+1<g.heap.size:=(by omega);clear c)))
 exact box_ret1a rfl rfl (t:=⟨k,lo,hi,m⟩) o.out y (by omega)
theorem ldo_as {op a A b B d g:Int}{f:Bool}(i:Hid (wfS (a,A)))(c:Hid (wfS (b,B)))(h:Hid (optV (doR op a A b B)=.tuple #[.agg #[U8 d,U8 g],.bool f]))(w:World):Cl 157 #[I4 op,.agg #[U8 a,U8 A],.agg #[U8 b,U8 B]] w fun e k=>e=.returned (.tuple #[.agg #[U8 d,U8 g],.bool f])/\Bw w k:=by
 rw [<- h.out];exact ldo_any op a A b B w i.out.1 i.out.2 c.out.1 c.out.2
theorem lrefine_as {op a A b B d g:Int}{f h:Bool}(i:Hid (wfS (a,A)))(c:Hid (wfS (b,B)))(l:Hid (optV (refineR op a A b B h)=.tuple #[.agg #[U8 d,U8 g],.bool f]))(w:World):Cl 141 #[I4 op,.agg #[U8 a,U8 A],.agg #[U8 b,U8 B],.bool h] w fun e k=>e=.returned (.tuple #[.agg #[U8 d,U8 g],.bool f])/\Bw w k:=by
 rw [<- l.out];exact lrefine_any op a A b B h w i.out.1 i.out.2 c.out.1 c.out.2
theorem qCg {i:In}{k lo hi m:Int}{s:St}(h:Hid (srcT i s=⟨k,lo,hi,m⟩))(r:Bool)(w:World)(d:s.length=8)(c:i.b=8∨(0<=i.b/\i.b<=7)):Cl 110 #[stV r s,i.v] w fun e a=>e=.returned (.agg #[I4 k,U8 lo,U8 hi,I4 m])/\Bw w a:=lsource_as h r w d c
theorem bxs_below {w a:World}{n:Nat}{x y:Value}(h:w.cell? ⟨n,0,none⟩=some x/\w.cell? ⟨n,1,none⟩=some y/\w.frozen? ⟨n,0,none⟩=false/\w.frozen? ⟨n,1,none⟩=false)(c:Bw w a)(b:n<w.heap.size):a.cell? ⟨n,0,none⟩=some x/\a.cell? ⟨n,1,none⟩=some y/\a.frozen? ⟨n,0,none⟩=false/\a.frozen? ⟨n,1,none⟩=false:=by
 rw [c.cell (p:=⟨n,0,none⟩) b,c.cell (p:=⟨n,1,none⟩) b,c.frozen (p:=⟨n,0,none⟩) b,c.frozen (p:=⟨n,1,none⟩) b];exact h
theorem bxs_kept {w a:World}{x y:Value}{T:TypeId}(b:Below (w.alloc (Obj.cells #[x,y] T)).heap.size (w.alloc (Obj.cells #[x,y] T)) a):w.heap.size<a.heap.size/\a.cell? ⟨w.heap.size,0,none⟩=some x/\a.cell? ⟨w.heap.size,1,none⟩=some y/\a.frozen? ⟨w.heap.size,0,none⟩=false/\a.frozen? ⟨w.heap.size,1,none⟩=false:=by
 have c:w.heap.size<(w.alloc (Obj.cells #[x,y] T)).heap.size:=by simp
 exact ⟨Nat.lt_of_lt_of_le c b.size,bxs_below ⟨by go_cell,by go_cell,by go_simp,by go_simp⟩ b c⟩
theorem lmade_do (nm:Nat)(op d a b z:Int)(r:Bool)(s:St)(w:World)(h8:Made8 nm s)(a4:1<=op/\op<=10)(ha:0<=a/\a<=7)(hb:b=8∨(0<=b/\b<=7)):Cl 142 #[stV r s,In.v ⟨op,d,a,b,z⟩] w fun e f=>e=.returned (tyV (doT op (regT s a) (srcT ⟨op,d,a,b,z⟩ s)))/\Bw w f:=by
 obtain ⟨n,rfl⟩:=Int.eq_ofNat_of_zero_le ha.1
 have hn:n<8:=by omega
 obtain ⟨sk,R,Q,sm,HS⟩:∃ k lo hi m,Hid (s.getD n Ty.nil=⟨k,lo,hi,m⟩):=⟨_,_,_,_,rfl⟩;obtain ⟨tk,tl,th,tm,HT⟩:∃ k lo hi m,Hid (srcT ⟨op,d,n,b,z⟩ s=⟨k,lo,hi,m⟩):=⟨_,_,_,_,rfl⟩
 obtain ⟨A,B,ok,HJ,HE⟩:∃ A B ok,Hid (optV (doR op R Q tl th)=.tuple #[.agg #[U8 A,U8 B],.bool ok])/\Hid (doT op (regT s n) (srcT ⟨op,d,n,b,z⟩ s)=⟨1,A,B,0⟩):=by
  have e1:regT s n=⟨sk,R,Q,sm⟩:=HS.out;unfold doT;rw [HT.out,e1]
  cases doR op R Q tl th with
  | none=>exact ⟨0,0,false,rfl,rfl⟩
  | some q=>exact ⟨q.1,q.2,true,rfl,rfl⟩
 rw [HE.out]
 have V:Hid (wfS (R,Q)):=by have:=h8.ends hn;rw [HS.out] at this;exact this
 have a1:Hid (wfS (tl,th)):=by have:=(made_src (i:=⟨op,d,n,b,z⟩) h8 hb).ends;rw [HT.out] at this;exact this
 have ae:¬ op=0:=by omega
 have ah:¬ op=11:=by omega
 have ab:¬ op=13:=by omega
 have ag:¬ op=14:=by omega
 have ac:¬ op=21:=by omega
 obtain ⟨Z,HZ,a3,a8,a0,L,ai⟩:=boxes3 w r s op d n b z;have H8:=keepJ h8.1;have HB:=keepJ hb;have aa:=keepJ a4
 have af:(n:Int)<8:=by omega
 clear h8 hb a4 ha;go_enter Tryz.func142,Tryz.ntmps142;go_wp2;rw [<- HZ.out];clear HZ;obtain ⟨y0,y1,y2,y3,y4⟩:=id a8.out;have hsz:=a3.out.lt
 have ad:∀ wy:World,(Instr.field 153 (.agg #[I4 tk,U8 tl,U8 th,I4 tm]) 1).run Tryz.prog wy=.ok (.agg #[U8 tl,U8 th]) wy:=fun _=>by kernel_rfl
 have G:Hid (∀ f,Bw Z f->f.cell? ⟨w.heap.size+1,0,none⟩=some (I4 op)/\f.cell? ⟨w.heap.size+1,1,none⟩=some (I4 d)/\f.cell? ⟨w.heap.size+1,2,none⟩=some (I4 n)/\f.cell? ⟨w.heap.size+1,3,none⟩=some (I4 b)/\f.cell? ⟨w.heap.size+1,4,none⟩=some (I4 z)/\f.cell? ⟨w.heap.size,1+n*4+1,none⟩=some (U8 R)/\f.cell? ⟨w.heap.size,1+n*4+1+1,none⟩=some (U8 Q)/\StAt f w.heap.size 0 r s/\True):=fun f a7=>by
  obtain ⟨q0,q1,q2,q3⟩:=stC_typ (r:=r) H8.out hn HS.out;have hh:=a3.out.below a7 hsz;obtain ⟨x0,x1,x2,x3,x4⟩:=Box.below a8.out a7 (by omega);exact ⟨x0,x1,x2,x3,x4,hh.cell q1,hh.cell q2,hh.one,trivial⟩
 refine wp_region_held_drew (S:=fun f=>f.cell? ⟨w.heap.size+1,0,none⟩=some (I4 op)/\f.cell? ⟨w.heap.size+1,1,none⟩=some (I4 d)/\f.cell? ⟨w.heap.size+1,2,none⟩=some (I4 n)/\f.cell? ⟨w.heap.size+1,3,none⟩=some (I4 b)/\f.cell? ⟨w.heap.size+1,4,none⟩=some (I4 z)/\f.cell? ⟨w.heap.size,1+n*4+1,none⟩=some (U8 R)/\f.cell? ⟨w.heap.size,1+n*4+1+1,none⟩=some (U8 Q)/\StAt f w.heap.size 0 r s/\True) (by kernel_rfl) (G.out _ (Below.refl _ _).drew) (fun hHeld=>?_);clear y0 y1 y2 y3 y4
-- DO BEGIN
 refine tkGo [0,1,2,3,4,5,6,7] ?_
 repeat (refine tkO (v:=?_) rfl ?_ ?_;rotate_left;(intro wy hSw;(try dsimp only at hSw);go_simp;(first|done|with_reducible rfl));try simp only [Act.put,p1q,p2q,p3q,p4q,p5q,p6q])
 refine tkEnd ?_;refine wpAnyH_take (i:=8) rfl (by kernel_rfl) (by kernel_rfl) (by kernel_rfl) (fun _ _ _ h=>h) (yieldsIf_load_mid (by rfl) _ _ rfl _ _ rfl (stC r s) _ (fun w h=>h.2.2.2.2.2.2.2.1) Tryz.underlying156 rfl (sizeJ H8.out)) (by assumption) ?_
 try simp only [Act.put,p1q,p2q,p3q,p4q,p5q,p6q]
 refine tkGo [9] ?_
 repeat (refine tkO (v:=?_) rfl ?_ ?_;rotate_left;(intro wy hSw;(try dsimp only at hSw);go_simp;(first|done|with_reducible rfl));try simp only [Act.put,p1q,p2q,p3q,p4q,p5q,p6q])
 refine tkEnd ?_;refine runT 10 16 (by kernel_rfl) rfl rfl (by rfl) (by rfl) (fun KK hK=>?_) (fun KK hK=>?_)
 ·go_simp
  go_at_call 110
  refine (qCg (i:=⟨op,d,n,b,z⟩) HT r Z.drew H8.out HB.out).mono ?_;rintro e J ⟨rfl,P⟩;have D:Bw Z J:=qAf P;have K:=D.size;refine hK.out _ _ (G.out _ D) (fun hHeld=>?_);clear hK KK
  try simp only [Act.put,p1q,p2q,p3q,p4q,p5q,p6q]
  refine tkGo [11] ?_
  repeat (refine tkO (v:=?_) rfl ?_ ?_;rotate_left;(intro wy hSw;(try dsimp only at hSw);go_simp;(first|done|with_reducible rfl));try simp only [Act.put,p1q,p2q,p3q,p4q,p5q,p6q])
  refine tkEnd ?_;refine runT 12 16 (by kernel_rfl) rfl rfl (by rfl) (by rfl) (fun KK hK=>?_) (fun KK hK=>?_)
  ·go_simp
   go_at_call 157
   refine (ldo_as V a1 HJ J).mono ?_;rintro e I ⟨rfl,l⟩;have c:Bw Z I:=D.trans (l.mono K);refine hK.out _ _ (G.out _ c) (fun hHeld=>?_);clear hK KK
   try simp only [Act.put,p1q,p2q,p3q,p4q,p5q,p6q]
   refine tkGo [13,14,15] ?_
   repeat (refine tkO (v:=?_) rfl ?_ ?_;rotate_left;(intro wy hSw;(try dsimp only at hSw);go_simp;(first|done|with_reducible rfl));try simp only [Act.put,p1q,p2q,p3q,p4q,p5q,p6q])
   refine tkEnd ?_;refine runO 16 (by kernel_rfl) rfl (by rfl) (fun KK hK=>?_);go_simp;refine hK.out _ _ (G.out _ (c.alloc c.size _)) (fun hHeld=>?_);clear hK KK
   try simp only [Act.put,p1q,p2q,p3q,p4q,p5q,p6q]
   refine runO 17 (by kernel_rfl) rfl (by rfl) (fun KK hK=>?_);go_simp;refine hK.out _ _ (G.out _ (c.alloc c.size _)) (fun hHeld=>?_);clear hK KK
   try simp only [Act.put,p1q,p2q,p3q,p4q,p5q,p6q]
   refine tkGo [18] ?_
   repeat (refine tkO (v:=?_) rfl ?_ ?_;rotate_left;(intro wy hSw;(try dsimp only at hSw);go_simp;(first|done|with_reducible rfl));try simp only [Act.put,p1q,p2q,p3q,p4q,p5q,p6q])
   refine tkEnd ?_;refine wpAnyH_done (by kernel_rfl) ?_ _;obtain ⟨Y,g,N,F,y,a5,e0,e1⟩:∃ Y g,Hid (Y=I.alloc (Obj.cells #[U8 A,U8 B] 151))/\Hid (I.heap.size=g)/\Bw Z Y/\(g<Y.heap.size/\Z.heap.size<=g)/\Y.cell? ⟨g,0,none⟩=some (U8 A)/\Y.cell? ⟨g,1,none⟩=some (U8 B):=⟨_,_,rfl,rfl,c.alloc c.size _,⟨by simp,c.size⟩,by go_cell,by go_cell⟩;rw [<- N.out,F.out];clear N F hHeld;have U:Hid (BxT Y (w.heap.size+1+1) 0 ⟨0,0,0,0⟩):=BxT.below a0.out y (by omega);have O:=y.size
   go_wp2_with (go_at_call 131;go_must (refine (qCf A B _).mono ?_);rintro e w5 ⟨rfl,o⟩;go_must (have E:Hid (BxT w5 (w.heap.size+1+1) 0 ⟨0,0,0,0⟩):=BxT.below U.out o (by omega);have M:=L.out.trans ((y.trans (o.mono O)).mono L.out.size);obtain ⟨c0,c1,c2,c3,f0,f1,f2,f3⟩:=BxT.open E.out;clear o))
   exact qBx rfl rfl (t:=⟨1,A,B,0⟩) E.out M (by omega)
  ·go_simp;refine hK.out _ _ (G.out _ (D.alloc K _)) (fun hHeld=>?_);clear hK KK
   try simp only [Act.put,p1q,p2q,p3q,p4q,p5q,p6q]
   refine runO 12 (by kernel_rfl) rfl (by rfl) (fun KK hK=>?_);go_simp
   go_at_call 157
   refine (ldo_as V a1 HJ _).mono ?_;rintro e I ⟨rfl,l⟩;obtain ⟨a9,n0,n1,g0,g1⟩:=bxs_kept l;have c:Bw Z I:=(D.alloc K _).trans (l.mono (by simp;omega));have u:Z.heap.size<=J.heap.size:=K;have T:J.heap.size<I.heap.size:=a9;refine hK.out _ _ (G.out _ c) (fun hHeld=>?_);clear hK KK
   try simp only [Act.put,p1q,p2q,p3q,p4q,p5q,p6q]
   refine tkGo [13,14,15] ?_
   repeat (refine tkO (v:=?_) rfl ?_ ?_;rotate_left;(intro wy hSw;(try dsimp only at hSw);go_simp;(first|done|with_reducible rfl));try simp only [Act.put,p1q,p2q,p3q,p4q,p5q,p6q])
   refine tkEnd ?_;refine runO 17 (by kernel_rfl) rfl (by rfl) (fun KK hK=>?_);go_simp;refine hK.out _ _ (G.out _ (qAa (qAa c u) u)) (fun hHeld=>?_);clear hK KK
   try simp only [Act.put,p1q,p2q,p3q,p4q,p5q,p6q]
   refine tkGo [18] ?_
   repeat (refine tkO (v:=?_) rfl ?_ ?_;rotate_left;(intro wy hSw;(try dsimp only at hSw);go_simp;(first|done|with_reducible rfl));try simp only [Act.put,p1q,p2q,p3q,p4q,p5q,p6q])
   refine tkEnd ?_;refine wpAnyH_done (by kernel_rfl) ?_ _;obtain ⟨Y,g,N,F,y,a5,e0,e1⟩:∃ Y g,Hid (Y=(I.setCell ⟨J.heap.size,0,none⟩ (U8 A)).setCell ⟨J.heap.size,1,none⟩ (U8 B))/\Hid (J.heap.size=g)/\Bw Z Y/\(g<Y.heap.size/\Z.heap.size<=g)/\Y.cell? ⟨g,0,none⟩=some (U8 A)/\Y.cell? ⟨g,1,none⟩=some (U8 B):=⟨_,_,rfl,rfl,qAa (qAa c u) u,⟨by simpa [World.setCell] using T,u⟩,(qAk n0 n1).1,(qAk n0 n1).2⟩;rw [<- N.out,F.out];clear N F hHeld;have U:Hid (BxT Y (w.heap.size+1+1) 0 ⟨0,0,0,0⟩):=BxT.below a0.out y (by omega);have O:=y.size
   go_wp2_with (go_at_call 131;go_must (refine (qCf A B _).mono ?_);rintro e w5 ⟨rfl,o⟩;go_must (have E:Hid (BxT w5 (w.heap.size+1+1) 0 ⟨0,0,0,0⟩):=BxT.below U.out o (by omega);have M:=L.out.trans ((y.trans (o.mono O)).mono L.out.size);obtain ⟨c0,c1,c2,c3,f0,f1,f2,f3⟩:=BxT.open E.out;clear o))
   exact qBx rfl rfl (t:=⟨1,A,B,0⟩) E.out M (by omega)
 ·go_simp;have a6:Bw Z (Z.alloc (Obj.cells #[U8 0,U8 0] 151)):=(Below.refl _ _).alloc (Nat.le_refl _) _;refine hK.out _ _ (G.out _ (a6.drew)) (fun hHeld=>?_);clear hK KK
  try simp only [Act.put,p1q,p2q,p3q,p4q,p5q,p6q]
  refine runO 10 (by kernel_rfl) rfl (by rfl) (fun KK hK=>?_);go_simp
  go_at_call 110
  refine (qCg (i:=⟨op,d,n,b,z⟩) HT r _ H8.out HB.out).mono ?_;rintro e J ⟨rfl,P⟩;have X:=qAf P;obtain ⟨a2,m0,m1,k0,k1⟩:=bxs_kept X;have D:Bw Z J:=a6.trans (X.mono (by simp));have K:=D.size;refine hK.out _ _ (G.out _ D) (fun hHeld=>?_);clear hK KK
  try simp only [Act.put,p1q,p2q,p3q,p4q,p5q,p6q]
  refine tkGo [11] ?_
  repeat (refine tkO (v:=?_) rfl ?_ ?_;rotate_left;(intro wy hSw;(try dsimp only at hSw);go_simp;(first|done|with_reducible rfl));try simp only [Act.put,p1q,p2q,p3q,p4q,p5q,p6q])
  refine tkEnd ?_;refine runO 12 (by kernel_rfl) rfl (by rfl) (fun KK hK=>?_);go_simp
  go_at_call 157
  refine (ldo_as V a1 HJ J).mono ?_;rintro e I ⟨rfl,l⟩;have c:Bw Z I:=D.trans (l.mono K);obtain ⟨n0,n1,g0,g1⟩:=bxs_below ⟨m0,m1,k0,k1⟩ l a2;have u:Z.heap.size<=Z.heap.size:=Nat.le_refl _;have T:Z.heap.size<I.heap.size:=Nat.lt_of_lt_of_le a2 l.size;refine hK.out _ _ (G.out _ c) (fun hHeld=>?_);clear hK KK
  try simp only [Act.put,p1q,p2q,p3q,p4q,p5q,p6q]
  refine tkGo [13,14,15] ?_
  repeat (refine tkO (v:=?_) rfl ?_ ?_;rotate_left;(intro wy hSw;(try dsimp only at hSw);go_simp;(first|done|with_reducible rfl));try simp only [Act.put,p1q,p2q,p3q,p4q,p5q,p6q])
  refine tkEnd ?_;refine runO 17 (by kernel_rfl) rfl (by rfl) (fun KK hK=>?_);go_simp;refine hK.out _ _ (G.out _ (qAa (qAa c u) u)) (fun hHeld=>?_);clear hK KK
  try simp only [Act.put,p1q,p2q,p3q,p4q,p5q,p6q]
  refine tkGo [18] ?_
  repeat (refine tkO (v:=?_) rfl ?_ ?_;rotate_left;(intro wy hSw;(try dsimp only at hSw);go_simp;(first|done|with_reducible rfl));try simp only [Act.put,p1q,p2q,p3q,p4q,p5q,p6q])
  refine tkEnd ?_;refine wpAnyH_done (by kernel_rfl) ?_ _;obtain ⟨Y,g,N,F,y,a5,e0,e1⟩:∃ Y g,Hid (Y=(I.setCell ⟨Z.heap.size,0,none⟩ (U8 A)).setCell ⟨Z.heap.size,1,none⟩ (U8 B))/\Hid (Z.heap.size=g)/\Bw Z Y/\(g<Y.heap.size/\Z.heap.size<=g)/\Y.cell? ⟨g,0,none⟩=some (U8 A)/\Y.cell? ⟨g,1,none⟩=some (U8 B):=⟨_,_,rfl,rfl,qAa (qAa c u) u,⟨by simpa [World.setCell] using T,u⟩,(qAk n0 n1).1,(qAk n0 n1).2⟩;rw [<- N.out,F.out];clear N F hHeld;have U:Hid (BxT Y (w.heap.size+1+1) 0 ⟨0,0,0,0⟩):=BxT.below a0.out y (by omega);have O:=y.size
  go_wp2_with (go_at_call 131;go_must (refine (qCf A B _).mono ?_);rintro e w5 ⟨rfl,o⟩;go_must (have E:Hid (BxT w5 (w.heap.size+1+1) 0 ⟨0,0,0,0⟩):=BxT.below U.out o (by omega);have M:=L.out.trans ((y.trans (o.mono O)).mono L.out.size);obtain ⟨c0,c1,c2,c3,f0,f1,f2,f3⟩:=BxT.open E.out;clear o))
  exact qBx rfl rfl (t:=⟨1,A,B,0⟩) E.out M (by omega)
-- DO END
theorem Hp.oneR {w:World}{b:Nat}{t:TypeId}{r:Bool}{s:St}(h:Hp w b t (stC r s)):w.rangeAt b 0 (stC r s):=h.one
theorem writes_op (i:In)(h:i.wr.2=true)(c:i.right=true):(i.wr=(i.d,true)/\((0<=i.op/\i.op<=11)∨i.op=13∨i.op=14))∨(i.wr=(0,true)/\i.op=21):=by
 have g:=qBp (op:=i.op) c;unfold In.wr writesL at h ⊢
 have f:¬ rightB i.op i.d i.a i.b i.imm=false:=by simp [show rightB i.op i.d i.a i.b i.imm=true from c]
 rw [if_neg f] at h ⊢
 split
 ·rename_i hc;exact .inl ⟨rfl,by omega⟩
 ·rename_i hc
  have h:(i.op==21)=true:=by simpa [hc] using h
  by_cases h21:i.op=21
  ·exact .inr ⟨by simp [h21],h21⟩
  ·simp [h21] at h
theorem lmade_any (nm:Nat)(i:In)(r:Bool)(s:St)(w:World)(n:Made8 nm s)(k:i.right=true)(o:i.wr.2=true):Cl 142 #[stV r s,i.v] w fun e u=>e=.returned (tyV (madeT i s))/\Bw w u:=by
 have l:=writes_op i o k
 have f:=fun h=>(qBs k h).2
 have g:=fun h=>qBn k h
 obtain ⟨op,d,a,b,c⟩:=i;simp only at l f g;unfold madeT;simp only
 by_cases h0:op=0
 ·subst h0;rw [if_pos rfl];exact lmade_set nm d a b c r s w n (f (.inl (by omega)))
 rw [if_neg h0]
 by_cases h1:op=11∨op=13
 ·rw [if_pos h1]
  rcases h1 with rfl|rfl
  ·exact lmade_full11 d a b c r s w
  ·exact lmade_full13 d a b c r s w
 rw [if_neg h1]
 by_cases h2:op=14
 ·subst h2;rw [if_pos rfl];exact lmade_map d a b c r s w
 rw [if_neg h2]
 by_cases h3:op=21
 ·subst h3;rw [if_pos rfl];exact lmade_call d a b c r s w
 rw [if_neg h3];exact lmade_do nm op d a b c r s w n (by omega) (g (.inl (by omega))) (f (.inl (by omega)))
theorem lmade_as {nm:Nat}{i:In}{k lo hi m:Int}(r:Bool){s:St}(w:World)(h:Hid (madeT i s=⟨k,lo,hi,m⟩))(b:Made8 nm s)(c:i.right=true)(d:i.wr.2=true):Cl 142 #[stV r s,i.v] w fun e a=>e=.returned (.agg #[I4 k,U8 lo,U8 hi,I4 m])/\Bw w a:=by
 have:=lmade_any nm i r s w b c d;rw [h.out] at this;exact this
theorem owrites_as {op d a b c n:Int}{f:Bool}(h:Hid (writesL op d a b c=(n,f)))(w:World):Cl 108 #[instV op d a b c] w fun e g=>e=.returned (.tuple #[I4 n,.bool f])/\Bw w g:=by
 have:=owrites_any op d a b c w;rw [h.out] at this;exact this
theorem st_ret {c:Func}{p:Tmp}{w b:World}{n B:Nat}{a:Array Value}{r:Bool}{s:St}(f:c.results=#[.cell p 156])(d:a.getD p undef=.pointer (some ⟨n,0,none⟩))(i:StAt b n 0 r s)(l:s.length=8)(k:Below B w b) :
  bodyPost Tryz.prog c (fun e g=>e=.returned (stV r s)/\Below B w g) .ret ⟨a,[]⟩ b:=by
 refine bodyPost_ret (v:=stV r s) ?_ rfl ⟨rfl,k⟩;rw [qAm f,d];simp only [asAddr,Sem.run_pure,Result.andThen];exact run_loadVar_mid b n 0 _ _ _ i Tryz.underlying156 rfl (sizeJ l)
def zeroC:List Value:=[.bool false,.int .i64 0,.int .u64 0,.int .u64 0,.int .i64 0,.int .i64 0,.int .u64 0,.int .u64 0,.int .i64 0,.int .i64 0,.int .u64 0,.int .u64 0,.int .i64 0,.int .i64 0,.int .u64 0,.int .u64 0,.int .i64 0,.int .i64 0,.int .u64 0,.int .u64 0,.int .i64 0,.int .i64 0,.int .u64 0,.int .u64 0,.int .i64 0,.int .i64 0,.int .u64 0,.int .u64 0,.int .i64 0,.int .i64 0,.int .u64 0,.int .u64 0,.int .i64 0]
theorem qAv:zeroC.length=33:=rfl
theorem boxes3s (w:World)(r:Bool)(s:St)(op d a b c:Int):∃ Z,Hid (Z=((w.alloc (Obj.cells (stC r s).toArray 156)).alloc (instO op d a b c)).alloc (Obj.cells #[.bool false,I4 0,U8 0,U8 0,I4 0,I4 0,U8 0,U8 0,I4 0,I4 0,U8 0,U8 0,I4 0,I4 0,U8 0,U8 0,I4 0,I4 0,U8 0,U8 0,I4 0,I4 0,U8 0,U8 0,I4 0,I4 0,U8 0,U8 0,I4 0,I4 0,U8 0,U8 0,I4 0] 156))/\Hid (Hp Z w.heap.size 156 (stC r s))/\Hid (Box Z (w.heap.size+1) op d a b c)/\Hid (Hp Z (w.heap.size+1+1) 156 zeroC)/\Hid (Bw w Z)/\(Z.heap.size<=w.heap.size+3/\w.heap.size+3<=Z.heap.size) :=
 ⟨_,rfl,((Hp.new w (stC r s) _).alloc _).alloc _,⟨by go_cell,by go_cell,by go_cell,by go_cell,by go_cell⟩,keepJ (by have:=Hp.new ((w.alloc (Obj.cells (stC r s).toArray 156)).alloc (instO op d a b c)) zeroC 156;simpa [zeroC] using this),keepJ (by go_grown),by simp⟩
def wrS (i:In) (s:St):St:=if i.wr.2=true then s.set i.wr.1.toNat (madeT i s) else s
theorem lwritten_no (op d a b f:Int)(n:Int)(r:Bool)(s:St)(w:World)(g:s.length=8)(F:Hid (writesL op d a b f=(n,false))):Cl 119 #[stV r s,In.v ⟨op,d,a,b,f⟩] w fun e J=>e=.returned (stV r s)/\Bw w J:=by
 obtain ⟨Z,G,y,o,E,k,K⟩:=boxes3s w r s op d a b f;obtain ⟨N,M,P,L,O⟩:=o.out;have D:=keepJ (sizeJ (r:=r) g);have u:=keepJ (sizeJA (r:=r) g);have A:=keepJ (stC_all r s);go_enter Tryz.func119,Tryz.ntmps119
 go_wp2_with (first
  | (go_at_call 108;rw [<- G.out];go_must (refine (owrites_as F _).mono ?_);rintro e I ⟨rfl,c⟩;go_must (have l:=k.out.trans (c.mono k.out.size);have z:=keepJ (y.out.below c (by omega)).oneR;have i:=keepJ (E.out.below c (by omega));have B:=keepJ (show I.there (w.heap.size+1+1) 0 (stC r s).toArray.size from (by rw [qCw r g];exact i.out.there (by rw [qAv];omega)))))
  | ((with_reducible refine wpList_load_mid ?qa 156 (.tmp 2) ?qb w.heap.size 0 ?qc (stC r s) _ z.out Tryz.underlying156 ?qd D.out ?qe);(case qa=>rfl);(case qb=>rfl);(case qc=>rfl);(case qd=>rfl))
  | ((with_reducible refine wpList_store_mid ?ra 156 (.tmp 4) (.tmp 19) ?rb (w.heap.size+1+1) 0 (stC r s).toArray ?rc ?rd B.out u.out A.out ?re);(case ra=>rfl);(case rb=>rfl);(case rc=>rfl);(case rd=>rfl)))
 refine st_ret (n:=w.heap.size+1+1) rfl rfl ?_ g ?_
 ·exact (i.out.box qAv g).one
 ·exact l.trans (qAg (qAd _ _ _ _) (by omega) l.size)
theorem lwritten_do (nm:Nat)(op d a b c:Int)(n:Nat)(k lo hi m:Int)(r:Bool)(s:St)(w:World)(u:Made8 nm s)(K:n<8)(O:In.right ⟨op,d,a,b,c⟩=true)(P:Hid (writesL op d a b c=((n:Int),true)))(HT:Hid (madeT ⟨op,d,a,b,c⟩ s=⟨k,lo,hi,m⟩)):Cl 119 #[stV r s,In.v ⟨op,d,a,b,c⟩] w fun e w'=>e=.returned (stV r (s.set n ⟨k,lo,hi,m⟩))/\Bw w w':=by
 obtain ⟨Z,HZ,S,z,a0,E,a4⟩:=boxes3s w r s op d a b c;obtain ⟨y0,y1,y2,y3,y4⟩:=z.out
 have l:(s.set n ⟨k,lo,hi,m⟩).length=8:=by rw [List.length_set];exact u.1
 have Y:=keepJ (sizeJ (r:=r) u.1);have J:=keepJ (sizeJ (r:=r) l);have R:=keepJ (sizeJA (r:=r) l);have T:=keepJ (stC_all r (s.set n ⟨k,lo,hi,m⟩));have HQ:=keepJ (fun wx (h:Hp wx w.heap.size 156 (stC r s))=>(h.one.typ u.1 K:AtT wx w.heap.size (0+1+n*4) (s.getD n Ty.nil)))
 have a2:(n:Int)<8:=by omega
 have y:In.wr ⟨op,d,a,b,c⟩=((n:Int),true):=P.out;have L:=keepJ O;have X:=keepJ (show (In.wr ⟨op,d,a,b,c⟩).2=true by rw [y]);have H8:=keepJ u;clear y O u;go_enter Tryz.func119,Tryz.ntmps119
 go_wp2_with (first
  | (go_at_call 108;rw [<- HZ.out];go_must (refine (owrites_as P _).mono ?_);rintro e w1 ⟨rfl,g⟩;go_must (have G:=E.out.trans (g.mono E.out.size);have a1:=g.size;have B:=keepJ (S.out.below g (by omega));have D:=keepJ B.out.oneR;have M:=keepJ (a0.out.below g (by omega));obtain ⟨x0,x1,x2,x3,x4⟩:=Box.below z.out g (by omega);clear y0 y1 y2 y3 y4))
  | ((with_reducible refine wpList_load_mid ?qa 156 (.tmp 2) ?qb w.heap.size 0 ?qc (stC r s) _ D.out Tryz.underlying156 ?qd Y.out ?qe);(case qa=>rfl);(case qb=>rfl);(case qc=>rfl);(case qd=>rfl))
  | (go_at_call 142;go_must (refine (lmade_as (i:=⟨op,d,a,b,c⟩) r w1 HT H8.out L.out X.out).mono ?_);rintro e I ⟨rfl,o⟩;go_must (have A:=G.trans (o.mono G.size);have a3:=o.size;have f:=keepJ (B.out.below o (by omega));have Q:=keepJ (M.out.below o (by omega));have N:=keepJ (f.out.boxT H8.out.1 K ⟨k,lo,hi,m⟩);have U:=keepJ N.out.oneR;have F:=keepJ (Q.out.grown (qAd w.heap.size (tyC ⟨k,lo,hi,m⟩) I (1+n*4)) (fun e=>by injection e with e;omega));have V:=keepJ (show (setT I w.heap.size (1+n*4) ⟨k,lo,hi,m⟩).there (w.heap.size+1+1) 0 (stC r (s.set n ⟨k,lo,hi,m⟩)).toArray.size from (by rw [qCw r l];exact F.out.there (by rw [qAv];omega)));obtain ⟨m0,m1,m2,m3⟩:=HQ.out I f.out;simp only [Nat.zero_add] at m0 m1 m2 m3;have f0:=f.out.frozen (1+n*4);have f1:=f.out.frozen (1+n*4+1);have f2:=f.out.frozen (1+n*4+2);have f3:=f.out.frozen (1+n*4+3);clear D))
  | ((with_reducible refine wpList_load_mid ?pa 156 (.tmp 2) ?pb w.heap.size 0 ?pc (stC r (s.set n ⟨k,lo,hi,m⟩)) _ U.out Tryz.underlying156 ?pd J.out ?pe);(case pa=>rfl);(case pb=>rfl);(case pc=>rfl);(case pd=>rfl))
  | ((with_reducible refine wpList_store_mid ?ra 156 (.tmp 4) (.tmp 19) ?rb (w.heap.size+1+1) 0 (stC r (s.set n ⟨k,lo,hi,m⟩)).toArray ?rc ?rd V.out R.out T.out ?re);(case ra=>rfl);(case rb=>rfl);(case rc=>rfl);(case rd=>rfl)))
 refine st_ret (n:=w.heap.size+1+1) rfl rfl ?_ l ?_
 ·exact (F.out.box qAv l).one
 ·exact (qAn (t:=⟨k,lo,hi,m⟩) (off:=1+n*4) A (Nat.le_refl _)).trans (qAg (qAd _ _ _ _) (by omega) (qAn (t:=⟨k,lo,hi,m⟩) (off:=1+n*4) A (Nat.le_refl _)).size)
theorem lwritten_any (nm:Nat)(i:In)(r:Bool)(s:St)(w:World)(l:Made8 nm s)(f:i.right=true):Cl 119 #[stV r s,i.v] w fun e y=>e=.returned (stV r (wrS i s))/\Bw w y:=by
 unfold wrS
 by_cases hw:i.wr.2=true
 ·rw [if_pos hw];have k:=writes_op i hw f
  have z:∃ n:Nat,n<8/\i.wr=((n:Int),true):=by
   rcases k with ⟨h,o⟩|⟨h,o⟩
   ·have:=qBg f (by omega);exact ⟨i.d.toNat,by omega,by rw [h];congr;omega⟩
   ·exact ⟨0,by omega,by rw [h];rfl⟩
  obtain ⟨n,u,he⟩:=z;obtain ⟨op,d,a,b,c⟩:=i;rw [he];exact lwritten_do nm op d a b c n _ _ _ _ r s w l u f he rfl
 ·rw [if_neg hw]
  have g:i.wr.2=false:=by simpa using hw
  obtain ⟨op,d,a,b,c⟩:=i;exact lwritten_no op d a b c _ r s w l.1 (show writesL op d a b c=(_,false) by rw [<- g];rfl)
theorem lnumber_as (lo hi:Int)(w:World):Cl 131 #[.agg #[U8 lo,U8 hi]] w fun e a=>e=.returned (.agg #[I4 1,U8 lo,U8 hi,I4 0])/\Bw w a:=qCf lo hi w
theorem keep3 {w c:World}{b a:Nat}{x y z:Value}(h:w.cell? ⟨b,2,none⟩=some x/\w.cell? ⟨a,0,none⟩=some y/\w.cell? ⟨a,1,none⟩=some z)(d:Bw w c)(hi:b<w.heap.size)(f:a<w.heap.size):c.cell? ⟨b,2,none⟩=some x/\c.cell? ⟨a,0,none⟩=some y/\c.cell? ⟨a,1,none⟩=some z:=by
 rw [d.cell (p:=⟨b,2,none⟩) hi,d.cell (p:=⟨a,0,none⟩) f,d.cell (p:=⟨a,1,none⟩) f];exact h
theorem keep3s {w:World}{d a sb o:Nat}{t:Ty}{x y z:Value}(h:w.cell? ⟨d,2,none⟩=some x/\w.cell? ⟨a,0,none⟩=some y/\w.cell? ⟨a,1,none⟩=some z)(hi:d≠sb)(f:a≠sb):(setT w sb o t).cell? ⟨d,2,none⟩=some x/\(setT w sb o t).cell? ⟨a,0,none⟩=some y/\(setT w sb o t).cell? ⟨a,1,none⟩=some z:=by
 have c:∀ b j u,b≠sb->w.cell? ⟨b,j,none⟩=some u->(setT w sb o t).cell? ⟨b,j,none⟩=some u:=fun b j u g i =>
  (qAd sb (tyC t) w o).cell i (fun e=>g (by injection e))
 exact ⟨c _ _ _ hi h.1,c _ _ _ f h.2.1,c _ _ _ f h.2.2⟩
theorem run_zero (w:World):(Instr.build 156 #[]).run Tryz.prog w=.ok (.agg zeroC.toArray) w:=by kernel_rfl
theorem wpList_zero {c:Array Oper}{b:List Oper}{op:Oper}{a:Act}{w:World}{Q:Exit->Act->World->Prop}(g:op.guard=none)(i:op.op=.build 156 #[])(d:List Value)(k:Hid (d=zeroC))(h:wpList Tryz.prog c Q b (a.put op.dst (.agg d.toArray)) w):wpList Tryz.prog c Q (op :: b) a w :=
 wpList_plain g fun K hK=>by
  have f:=hK _ _ h;rw [k.out] at f;unfold Oper.wp execOp;simp only [i];simp only [List.map_toArray,List.map_nil,Array.map_empty,Sem.run_bind,run_zero,Result.andThen_ok,Sem.run_pure];exact f
theorem lrefined_no (nm:Nat)(op d b D:Int)(n:Nat)(r:Bool)(s:St)(P:Bool)(w:World)(h8:Made8 nm s)(hn:n<8)(hb:b=8∨(0<=b/\b<=7))(N M:Int)(sk U sh sm tk tl th tm:Int)(HS:Hid (s.getD n Ty.nil=⟨sk,U,sh,sm⟩))(HT:Hid (srcT ⟨op,d,n,b,D⟩ s=⟨tk,tl,th,tm⟩))(HJ:Hid (optV (refineR op U sh tl th P)=.tuple #[.agg #[U8 N,U8 M],.bool false])):Cl 118 #[stV r s,In.v ⟨op,d,n,b,D⟩,.bool P] w fun e c=>e=.returned (stV false stZ)/\Bw w c:=by
 have a2:Hid (wfS (U,sh)):=by have:=h8.ends hn;rw [HS.out] at this;exact this
 have R:Hid (wfS (tl,th)):=by have:=(made_src (i:=⟨op,d,n,b,D⟩) h8 hb).ends;rw [HT.out] at this;exact this
 obtain ⟨Z,HZ,a5,a9,a3,J,ac⟩:=boxes3s w r s op d n b D;have H8:=keepJ h8.1;have HB:=keepJ hb
 have ab:(n:Int)<8:=by omega
 obtain ⟨y,k⟩:∃ y,Hid (y=zeroC):=⟨_,rfl⟩;have V:=keepJ (show (Tryz.prog.info? 156).map (·.size)=some y.toArray.size from by rw [k.out];kernel_rfl);have a1:=keepJ (show y.toArray.all (·.oneCell')=true from by rw [k.out];exact stC_all false stZ);clear h8 hb;go_enter Tryz.func118,Tryz.ntmps118;go_wp2;rw [<- HZ.out];clear HZ;have hsz:=a5.out.lt
 have ad:∀ wy:World,(Instr.field 153 (.agg #[I4 tk,U8 tl,U8 th,I4 tm]) 1).run Tryz.prog wy=.ok (.agg #[U8 tl,U8 th]) wy:=fun _=>by kernel_rfl
 have E:Hid (∀ c,Bw Z c->c.cell? ⟨w.heap.size+1,0,none⟩=some (I4 op)/\c.cell? ⟨w.heap.size+1,1,none⟩=some (I4 d)/\c.cell? ⟨w.heap.size+1,2,none⟩=some (I4 n)/\c.cell? ⟨w.heap.size+1,3,none⟩=some (I4 b)/\c.cell? ⟨w.heap.size+1,4,none⟩=some (I4 D)/\c.cell? ⟨w.heap.size,1+n*4+1,none⟩=some (U8 U)/\c.cell? ⟨w.heap.size,1+n*4+1+1,none⟩=some (U8 sh)/\StAt c w.heap.size 0 r s/\True):=fun c a8=>by
  obtain ⟨q0,q1,q2,q3⟩:=stC_typ (r:=r) H8.out hn HS.out;have hh:=a5.out.below a8 hsz;obtain ⟨x0,x1,x2,x3,x4⟩:=Box.below a9.out a8 (by omega);exact ⟨x0,x1,x2,x3,x4,hh.cell q1,hh.cell q2,hh.one,trivial⟩
 refine wp_region_held_drew (S:=fun c=>c.cell? ⟨w.heap.size+1,0,none⟩=some (I4 op)/\c.cell? ⟨w.heap.size+1,1,none⟩=some (I4 d)/\c.cell? ⟨w.heap.size+1,2,none⟩=some (I4 n)/\c.cell? ⟨w.heap.size+1,3,none⟩=some (I4 b)/\c.cell? ⟨w.heap.size+1,4,none⟩=some (I4 D)/\c.cell? ⟨w.heap.size,1+n*4+1,none⟩=some (U8 U)/\c.cell? ⟨w.heap.size,1+n*4+1+1,none⟩=some (U8 sh)/\StAt c w.heap.size 0 r s/\True) (by kernel_rfl) (E.out _ (Below.refl _ _).drew) (fun hHeld=>?_)
-- NO BEGIN
 refine tkGo [0,1,2,3,4,5,6,7] ?_
 repeat (refine tkO (v:=?_) rfl ?_ ?_;rotate_left;(intro wy hSw;(try dsimp only at hSw);go_simp;(first|done|with_reducible rfl));try simp only [Act.put,p1q,p2q,p3q,p4q,p5q,p6q])
 refine tkEnd ?_;refine wpAnyH_take (i:=8) rfl (by kernel_rfl) (by kernel_rfl) (by kernel_rfl) (fun _ _ _ h=>h) (yieldsIf_load_mid (by rfl) _ _ rfl _ _ rfl (stC r s) _ (fun w h=>h.2.2.2.2.2.2.2.1) Tryz.underlying156 rfl (sizeJ H8.out)) (by assumption) ?_
 try simp only [Act.put,p1q,p2q,p3q,p4q,p5q,p6q]
 refine tkGo [9,12] ?_
 repeat (refine tkO (v:=?_) rfl ?_ ?_;rotate_left;(intro wy hSw;(try dsimp only at hSw);go_simp;(first|done|with_reducible rfl));try simp only [Act.put,p1q,p2q,p3q,p4q,p5q,p6q])
 refine tkEnd ?_;refine runT 10 17 (by kernel_rfl) rfl rfl (by rfl) (by rfl) (fun KK hK=>?_) (fun KK hK=>?_)
 ·go_simp
  go_at_call 110
  refine (qCg (i:=⟨op,d,n,b,D⟩) HT r Z.drew H8.out HB.out).mono ?_;rintro e G ⟨rfl,O⟩;have u:Bw Z G:=qAf O;have I:=u.size;refine hK.out _ _ (E.out _ u) (fun hHeld=>?_);clear hK KK
  try simp only [Act.put,p1q,p2q,p3q,p4q,p5q,p6q]
  refine tkGo [11] ?_
  repeat (refine tkO (v:=?_) rfl ?_ ?_;rotate_left;(intro wy hSw;(try dsimp only at hSw);go_simp;(first|done|with_reducible rfl));try simp only [Act.put,p1q,p2q,p3q,p4q,p5q,p6q])
  refine tkEnd ?_;refine runT 13 17 (by kernel_rfl) rfl rfl (by rfl) (by rfl) (fun KK hK=>?_) (fun KK hK=>?_)
  ·go_simp
   go_at_call 141
   refine (lrefine_as a2 R HJ G).mono ?_;rintro e F ⟨rfl,o⟩;have a:Bw Z F:=u.trans (o.mono I);refine hK.out _ _ (E.out _ a) (fun hHeld=>?_);clear hK KK
   try simp only [Act.put,p1q,p2q,p3q,p4q,p5q,p6q]
   refine tkGo [14,15,16] ?_
   repeat (refine tkO (v:=?_) rfl ?_ ?_;rotate_left;(intro wy hSw;(try dsimp only at hSw);go_simp;(first|done|with_reducible rfl));try simp only [Act.put,p1q,p2q,p3q,p4q,p5q,p6q])
   refine tkEnd ?_;refine runO 17 (by kernel_rfl) rfl (by rfl) (fun KK hK=>?_);go_simp;refine hK.out _ _ (E.out _ (a.alloc a.size _)) (fun hHeld=>?_);clear hK KK
   try simp only [Act.put,p1q,p2q,p3q,p4q,p5q,p6q]
   refine runO 18 (by kernel_rfl) rfl (by rfl) (fun KK hK=>?_);go_simp;refine hK.out _ _ (E.out _ (a.alloc a.size _)) (fun hHeld=>?_);clear hK KK
   try simp only [Act.put,p1q,p2q,p3q,p4q,p5q,p6q]
   refine tkGo [19] ?_
   repeat (refine tkO (v:=?_) rfl ?_ ?_;rotate_left;(intro wy hSw;(try dsimp only at hSw);go_simp;(first|done|with_reducible rfl));try simp only [Act.put,p1q,p2q,p3q,p4q,p5q,p6q])
   refine tkEnd ?_;refine wpAnyH_done (by kernel_rfl) ?_ _;obtain ⟨Y,f,K,B,l,a6,e0,e1⟩:∃ Y f,Hid (Y=F.alloc (Obj.cells #[U8 N,U8 M] 151))/\Hid (F.heap.size=f)/\Bw Z Y/\(f<Y.heap.size/\Z.heap.size<=f)/\Y.cell? ⟨f,0,none⟩=some (U8 N)/\Y.cell? ⟨f,1,none⟩=some (U8 M):=⟨_,_,rfl,rfl,a.alloc a.size _,⟨by simp,a.size⟩,by go_cell,by go_cell⟩;rw [<- K.out,B.out];clear K B hHeld;have a4:=l.size;have A:=J.out.trans (l.mono J.out.size);have z:=keepJ (a3.out.below l (by omega));have L:=keepJ (show Y.there (w.heap.size+1+1) 0 y.toArray.size from (by rw [k.out];exact z.out.there (by rw [qAv];decide)))
   go_wp2_with (first|((with_reducible refine wpList_zero ?za4 ?zb4 y k ?zd4);(case za4=>rfl);(case zb4=>rfl))|((with_reducible refine wpList_store_mid ?ra4 156 (.tmp 6) (.tmp 28) ?rb4 (w.heap.size+1+1) 0 y.toArray ?rc4 ?rd4 L.out V.out a1.out ?re4);(case ra4=>rfl);(case rb4=>rfl);(case rc4=>rfl);(case rd4=>rfl)))
   refine st_ret (n:=w.heap.size+1+1) rfl rfl ?_ stZ_len ?_
   ·rw [k.out];exact (z.out.box (r:=false) (s:=stZ) qAv stZ_len).one
   ·exact A.trans (qAg (qAd _ _ _ _) (by omega) A.size)
  ·go_simp;refine hK.out _ _ (E.out _ (u.alloc I _)) (fun hHeld=>?_);clear hK KK
   try simp only [Act.put,p1q,p2q,p3q,p4q,p5q,p6q]
   refine runO 13 (by kernel_rfl) rfl (by rfl) (fun KK hK=>?_);go_simp
   go_at_call 141
   refine (lrefine_as a2 R HJ _).mono ?_;rintro e F ⟨rfl,o⟩;obtain ⟨aa,X,n1,g0,g1⟩:=bxs_kept o;have a:Bw Z F:=(u.alloc I _).trans (o.mono (by simp;omega));have g:Z.heap.size<=G.heap.size:=I;have T:G.heap.size<F.heap.size:=aa;refine hK.out _ _ (E.out _ a) (fun hHeld=>?_);clear hK KK
   try simp only [Act.put,p1q,p2q,p3q,p4q,p5q,p6q]
   refine tkGo [14,15,16] ?_
   repeat (refine tkO (v:=?_) rfl ?_ ?_;rotate_left;(intro wy hSw;(try dsimp only at hSw);go_simp;(first|done|with_reducible rfl));try simp only [Act.put,p1q,p2q,p3q,p4q,p5q,p6q])
   refine tkEnd ?_;refine runO 18 (by kernel_rfl) rfl (by rfl) (fun KK hK=>?_);go_simp;refine hK.out _ _ (E.out _ (qAa (qAa a g) g)) (fun hHeld=>?_);clear hK KK
   try simp only [Act.put,p1q,p2q,p3q,p4q,p5q,p6q]
   refine tkGo [19] ?_
   repeat (refine tkO (v:=?_) rfl ?_ ?_;rotate_left;(intro wy hSw;(try dsimp only at hSw);go_simp;(first|done|with_reducible rfl));try simp only [Act.put,p1q,p2q,p3q,p4q,p5q,p6q])
   refine tkEnd ?_;refine wpAnyH_done (by kernel_rfl) ?_ _;obtain ⟨Y,f,K,B,l,a6,e0,e1⟩:∃ Y f,Hid (Y=(F.setCell ⟨G.heap.size,0,none⟩ (U8 N)).setCell ⟨G.heap.size,1,none⟩ (U8 M))/\Hid (G.heap.size=f)/\Bw Z Y/\(f<Y.heap.size/\Z.heap.size<=f)/\Y.cell? ⟨f,0,none⟩=some (U8 N)/\Y.cell? ⟨f,1,none⟩=some (U8 M):=⟨_,_,rfl,rfl,qAa (qAa a g) g,⟨by simpa [World.setCell] using T,g⟩,(qAk X n1).1,(qAk X n1).2⟩;rw [<- K.out,B.out];clear K B hHeld;have a4:=l.size;have A:=J.out.trans (l.mono J.out.size);have z:=keepJ (a3.out.below l (by omega));have L:=keepJ (show Y.there (w.heap.size+1+1) 0 y.toArray.size from (by rw [k.out];exact z.out.there (by rw [qAv];decide)))
   go_wp2_with (first|((with_reducible refine wpList_zero ?za5 ?zb5 y k ?zd5);(case za5=>rfl);(case zb5=>rfl))|((with_reducible refine wpList_store_mid ?ra5 156 (.tmp 6) (.tmp 28) ?rb5 (w.heap.size+1+1) 0 y.toArray ?rc5 ?rd5 L.out V.out a1.out ?re5);(case ra5=>rfl);(case rb5=>rfl);(case rc5=>rfl);(case rd5=>rfl)))
   refine st_ret (n:=w.heap.size+1+1) rfl rfl ?_ stZ_len ?_
   ·rw [k.out];exact (z.out.box (r:=false) (s:=stZ) qAv stZ_len).one
   ·exact A.trans (qAg (qAd _ _ _ _) (by omega) A.size)
 ·go_simp;have a7:Bw Z (Z.alloc (Obj.cells #[U8 0,U8 0] 151)):=(Below.refl _ _).alloc (Nat.le_refl _) _;refine hK.out _ _ (E.out _ (a7.drew)) (fun hHeld=>?_);clear hK KK
  try simp only [Act.put,p1q,p2q,p3q,p4q,p5q,p6q]
  refine runO 10 (by kernel_rfl) rfl (by rfl) (fun KK hK=>?_);go_simp
  go_at_call 110
  refine (qCg (i:=⟨op,d,n,b,D⟩) HT r _ H8.out HB.out).mono ?_;rintro e G ⟨rfl,O⟩;have Q:=qAf O;obtain ⟨a0,m0,m1,k0,k1⟩:=bxs_kept Q;have u:Bw Z G:=a7.trans (Q.mono (by simp));have I:=u.size;refine hK.out _ _ (E.out _ u) (fun hHeld=>?_);clear hK KK
  try simp only [Act.put,p1q,p2q,p3q,p4q,p5q,p6q]
  refine tkGo [11] ?_
  repeat (refine tkO (v:=?_) rfl ?_ ?_;rotate_left;(intro wy hSw;(try dsimp only at hSw);go_simp;(first|done|with_reducible rfl));try simp only [Act.put,p1q,p2q,p3q,p4q,p5q,p6q])
  refine tkEnd ?_;refine runO 13 (by kernel_rfl) rfl (by rfl) (fun KK hK=>?_);go_simp
  go_at_call 141
  refine (lrefine_as a2 R HJ G).mono ?_;rintro e F ⟨rfl,o⟩;have a:Bw Z F:=u.trans (o.mono I);obtain ⟨X,n1,g0,g1⟩:=bxs_below ⟨m0,m1,k0,k1⟩ o a0;have g:Z.heap.size<=Z.heap.size:=Nat.le_refl _;have T:Z.heap.size<F.heap.size:=Nat.lt_of_lt_of_le a0 o.size;refine hK.out _ _ (E.out _ a) (fun hHeld=>?_);clear hK KK
  try simp only [Act.put,p1q,p2q,p3q,p4q,p5q,p6q]
  refine tkGo [14,15,16] ?_
  repeat (refine tkO (v:=?_) rfl ?_ ?_;rotate_left;(intro wy hSw;(try dsimp only at hSw);go_simp;(first|done|with_reducible rfl));try simp only [Act.put,p1q,p2q,p3q,p4q,p5q,p6q])
  refine tkEnd ?_;refine runO 18 (by kernel_rfl) rfl (by rfl) (fun KK hK=>?_);go_simp;refine hK.out _ _ (E.out _ (qAa (qAa a g) g)) (fun hHeld=>?_);clear hK KK
  try simp only [Act.put,p1q,p2q,p3q,p4q,p5q,p6q]
  refine tkGo [19] ?_
  repeat (refine tkO (v:=?_) rfl ?_ ?_;rotate_left;(intro wy hSw;(try dsimp only at hSw);go_simp;(first|done|with_reducible rfl));try simp only [Act.put,p1q,p2q,p3q,p4q,p5q,p6q])
  refine tkEnd ?_;refine wpAnyH_done (by kernel_rfl) ?_ _;obtain ⟨Y,f,K,B,l,a6,e0,e1⟩:∃ Y f,Hid (Y=(F.setCell ⟨Z.heap.size,0,none⟩ (U8 N)).setCell ⟨Z.heap.size,1,none⟩ (U8 M))/\Hid (Z.heap.size=f)/\Bw Z Y/\(f<Y.heap.size/\Z.heap.size<=f)/\Y.cell? ⟨f,0,none⟩=some (U8 N)/\Y.cell? ⟨f,1,none⟩=some (U8 M):=⟨_,_,rfl,rfl,qAa (qAa a g) g,⟨by simpa [World.setCell] using T,g⟩,(qAk X n1).1,(qAk X n1).2⟩;rw [<- K.out,B.out];clear K B hHeld;have a4:=l.size;have A:=J.out.trans (l.mono J.out.size);have z:=keepJ (a3.out.below l (by omega));have L:=keepJ (show Y.there (w.heap.size+1+1) 0 y.toArray.size from (by rw [k.out];exact z.out.there (by rw [qAv];decide)))
  go_wp2_with (first|((with_reducible refine wpList_zero ?za6 ?zb6 y k ?zd6);(case za6=>rfl);(case zb6=>rfl))|((with_reducible refine wpList_store_mid ?ra6 156 (.tmp 6) (.tmp 28) ?rb6 (w.heap.size+1+1) 0 y.toArray ?rc6 ?rd6 L.out V.out a1.out ?re6);(case ra6=>rfl);(case rb6=>rfl);(case rc6=>rfl);(case rd6=>rfl)))
  refine st_ret (n:=w.heap.size+1+1) rfl rfl ?_ stZ_len ?_
  ·rw [k.out];exact (z.out.box (r:=false) (s:=stZ) qAv stZ_len).one
  ·exact A.trans (qAg (qAd _ _ _ _) (by omega) A.size)
-- NO END
theorem lrefined_yes (nm:Nat)(op d b L:Int)(n:Nat)(r:Bool)(s:St)(ad:Bool)(w:World)(h8:Made8 nm s)(hn:n<8)(hb:b=8∨(0<=b/\b<=7))(a c:Int)(sk sl sh sm tk tl th tm:Int)(HS:Hid (s.getD n Ty.nil=⟨sk,sl,sh,sm⟩))(HT:Hid (srcT ⟨op,d,n,b,L⟩ s=⟨tk,tl,th,tm⟩))(HJ:Hid (optV (refineR op sl sh tl th ad)=.tuple #[.agg #[U8 a,U8 c],.bool true])):Cl 118 #[stV r s,In.v ⟨op,d,n,b,L⟩,.bool ad] w fun e f=>e=.returned (stV r (s.set n ⟨1,a,c,0⟩))/\Bw w f:=by
 have af:Hid (wfS (sl,sh)):=by have:=h8.ends hn;rw [HS.out] at this;exact this
 have ai:Hid (wfS (tl,th)):=by have:=(made_src (i:=⟨op,d,n,b,L⟩) h8 hb).ends;rw [HT.out] at this;exact this
 obtain ⟨Z,HZ,a0,ac,ah,X,av⟩:=boxes3s w r s op d n b L;have R:=keepJ h8.1;have HB:=keepJ hb
 have au:(n:Int)<8:=by omega
 have z:(s.set n ⟨1,a,c,0⟩).length=8:=by rw [List.length_set];exact h8.1
 have aa:=keepJ (sizeJ (r:=r) z);have a9:=keepJ (sizeJA (r:=r) z);have ak:=keepJ (stC_all r (s.set n ⟨1,a,c,0⟩));clear h8 hb;go_enter Tryz.func118,Tryz.ntmps118;go_wp2;rw [<- HZ.out];clear HZ;have hsz:=a0.out.lt
 have ar:∀ wy:World,(Instr.field 153 (.agg #[I4 tk,U8 tl,U8 th,I4 tm]) 1).run Tryz.prog wy=.ok (.agg #[U8 tl,U8 th]) wy:=fun _=>by kernel_rfl
 have M:Hid (∀ f,Bw Z f->f.cell? ⟨w.heap.size+1,0,none⟩=some (I4 op)/\f.cell? ⟨w.heap.size+1,1,none⟩=some (I4 d)/\f.cell? ⟨w.heap.size+1,2,none⟩=some (I4 n)/\f.cell? ⟨w.heap.size+1,3,none⟩=some (I4 b)/\f.cell? ⟨w.heap.size+1,4,none⟩=some (I4 L)/\f.cell? ⟨w.heap.size,1+n*4+1,none⟩=some (U8 sl)/\f.cell? ⟨w.heap.size,1+n*4+1+1,none⟩=some (U8 sh)/\StAt f w.heap.size 0 r s/\True):=fun f ap=>by
  obtain ⟨q0,q1,q2,q3⟩:=stC_typ (r:=r) R.out hn HS.out;have hh:=a0.out.below ap hsz;obtain ⟨x0,x1,T,x3,x4⟩:=Box.below ac.out ap (by omega);exact ⟨x0,x1,T,x3,x4,hh.cell q1,hh.cell q2,hh.one,trivial⟩
 refine wp_region_held_drew (S:=fun f=>f.cell? ⟨w.heap.size+1,0,none⟩=some (I4 op)/\f.cell? ⟨w.heap.size+1,1,none⟩=some (I4 d)/\f.cell? ⟨w.heap.size+1,2,none⟩=some (I4 n)/\f.cell? ⟨w.heap.size+1,3,none⟩=some (I4 b)/\f.cell? ⟨w.heap.size+1,4,none⟩=some (I4 L)/\f.cell? ⟨w.heap.size,1+n*4+1,none⟩=some (U8 sl)/\f.cell? ⟨w.heap.size,1+n*4+1+1,none⟩=some (U8 sh)/\StAt f w.heap.size 0 r s/\True) (by kernel_rfl) (M.out _ (Below.refl _ _).drew) (fun hHeld=>?_)
-- YES BEGIN
 refine tkGo [0,1,2,3,4,5,6,7] ?_
 repeat (refine tkO (v:=?_) rfl ?_ ?_;rotate_left;(intro wy hSw;(try dsimp only at hSw);go_simp;(first|done|with_reducible rfl));try simp only [Act.put,p1q,p2q,p3q,p4q,p5q,p6q])
 refine tkEnd ?_;refine wpAnyH_take (i:=8) rfl (by kernel_rfl) (by kernel_rfl) (by kernel_rfl) (fun _ _ _ h=>h) (yieldsIf_load_mid (by rfl) _ _ rfl _ _ rfl (stC r s) _ (fun w h=>h.2.2.2.2.2.2.2.1) Tryz.underlying156 rfl (sizeJ R.out)) (by assumption) ?_
 try simp only [Act.put,p1q,p2q,p3q,p4q,p5q,p6q]
 refine tkGo [9,12] ?_
 repeat (refine tkO (v:=?_) rfl ?_ ?_;rotate_left;(intro wy hSw;(try dsimp only at hSw);go_simp;(first|done|with_reducible rfl));try simp only [Act.put,p1q,p2q,p3q,p4q,p5q,p6q])
 refine tkEnd ?_;refine runT 10 17 (by kernel_rfl) rfl rfl (by rfl) (by rfl) (fun KK hK=>?_) (fun KK hK=>?_)
 ·go_simp
  go_at_call 110
  refine (qCg (i:=⟨op,d,n,b,L⟩) HT r Z.drew R.out HB.out).mono ?_;rintro e U ⟨rfl,ab⟩;have D:Bw Z U:=qAf ab;have V:=D.size;refine hK.out _ _ (M.out _ D) (fun hHeld=>?_);clear hK KK
  try simp only [Act.put,p1q,p2q,p3q,p4q,p5q,p6q]
  refine tkGo [11] ?_
  repeat (refine tkO (v:=?_) rfl ?_ ?_;rotate_left;(intro wy hSw;(try dsimp only at hSw);go_simp;(first|done|with_reducible rfl));try simp only [Act.put,p1q,p2q,p3q,p4q,p5q,p6q])
  refine tkEnd ?_;refine runT 13 17 (by kernel_rfl) rfl rfl (by rfl) (by rfl) (fun KK hK=>?_) (fun KK hK=>?_)
  ·go_simp
   go_at_call 141
   refine (lrefine_as af ai HJ U).mono ?_;rintro e O ⟨rfl,A⟩;have y:Bw Z O:=D.trans (A.mono V);refine hK.out _ _ (M.out _ y) (fun hHeld=>?_);clear hK KK
   try simp only [Act.put,p1q,p2q,p3q,p4q,p5q,p6q]
   refine tkGo [14,15,16] ?_
   repeat (refine tkO (v:=?_) rfl ?_ ?_;rotate_left;(intro wy hSw;(try dsimp only at hSw);go_simp;(first|done|with_reducible rfl));try simp only [Act.put,p1q,p2q,p3q,p4q,p5q,p6q])
   refine tkEnd ?_;refine runO 17 (by kernel_rfl) rfl (by rfl) (fun KK hK=>?_);go_simp;refine hK.out _ _ (M.out _ (y.alloc y.size _)) (fun hHeld=>?_);clear hK KK
   try simp only [Act.put,p1q,p2q,p3q,p4q,p5q,p6q]
   refine runO 18 (by kernel_rfl) rfl (by rfl) (fun KK hK=>?_);go_simp;refine hK.out _ _ (M.out _ (y.alloc y.size _)) (fun hHeld=>?_);clear hK KK
   try simp only [Act.put,p1q,p2q,p3q,p4q,p5q,p6q]
   refine tkGo [19] ?_
   repeat (refine tkO (v:=?_) rfl ?_ ?_;rotate_left;(intro wy hSw;(try dsimp only at hSw);go_simp;(first|done|with_reducible rfl));try simp only [Act.put,p1q,p2q,p3q,p4q,p5q,p6q])
   refine tkEnd ?_;refine wpAnyH_done (by kernel_rfl) ?_ _;obtain ⟨Y,k,HY,K,u,a3,e0,e1⟩:∃ Y k,Hid (Y=O.alloc (Obj.cells #[U8 a,U8 c] 151))/\Hid (O.heap.size=k)/\Bw Z Y/\(k<Y.heap.size/\Z.heap.size<=k)/\Y.cell? ⟨k,0,none⟩=some (U8 a)/\Y.cell? ⟨k,1,none⟩=some (U8 c):=⟨_,_,rfl,rfl,y.alloc y.size _,⟨by simp,y.size⟩,by go_cell,by go_cell⟩;rw [<- HY.out,K.out];clear HY K hHeld;go_wp2;have am:=u.size;have J:=X.out.trans (u.mono X.out.size);have a5:=keepJ (ah.out.below u (by omega));have a4:=keepJ (a0.out.below u (by omega));obtain ⟨x0,x1,T,x3,x4⟩:=Box.below ac.out u (by omega);refine wp_region_held_drew (S:=fun f=>f.cell? ⟨w.heap.size+1,2,none⟩=some (I4 n)/\f.cell? ⟨k,0,none⟩=some (U8 a)/\f.cell? ⟨k,1,none⟩=some (U8 c)) (by kernel_rfl) ⟨T,e0,e1⟩ (fun hHeld=>?_);refine tkGo [0,1,2,4] ?_
   repeat (refine tkO (v:=?_) rfl ?_ ?_;rotate_left;(intro wy hSw;(try dsimp only at hSw);go_simp;(first|done|with_reducible rfl));try simp only [Act.put,p1q,p2q,p3q,p4q,p5q,p6q])
   refine tkEnd ?_;refine runO 3 (by kernel_rfl) rfl (by rfl) (fun KK hK=>?_);go_simp
   go_at_call 131
   refine (lnumber_as a c Y.drew).mono ?_;rintro e E ⟨rfl,N⟩;have l:Bw Y E:=qAf N;have al:=l.size;have F:=keep3 ⟨T,e0,e1⟩ l (by omega) a3.1;have g:=keepJ (a4.out.below l (by omega));have a7:=keepJ (a5.out.below l (by omega));have G:=J.trans (l.mono J.size);refine hK.out _ _ F (fun hHeld=>?_);clear hK KK
   try simp only [Act.put,p1q,p2q,p3q,p4q,p5q,p6q]
   obtain ⟨m0,Q,m2,m3⟩:=(g.out.one.typ R.out hn:AtT E w.heap.size (0+1+n*4) (s.getD n Ty.nil));simp only [Nat.zero_add] at m0 Q m2 m3;have f0:=g.out.frozen (1+n*4);have f1:=g.out.frozen (1+n*4+1);have f2:=g.out.frozen (1+n*4+2);have f3:=g.out.frozen (1+n*4+3)
   have P:k≠w.heap.size:=by omega
   have a1:=keepJ (keep3s (sb:=w.heap.size) (o:=1+n*4) (t:=⟨1,a,c,0⟩) F (by omega) P);have a8:=keepJ (g.out.boxT R.out hn ⟨1,a,c,0⟩);have a2:=keepJ a8.out.oneR;have I:=keepJ (a7.out.grown (qAd w.heap.size (tyC ⟨1,a,c,0⟩) E (1+n*4)) (fun e=>by injection e with e;omega));have a6:=keepJ (show (setT E w.heap.size (1+n*4) ⟨1,a,c,0⟩).there (w.heap.size+1+1) 0 (stC r (s.set n ⟨1,a,c,0⟩)).toArray.size from (by rw [qCw r z];exact I.out.there (by rw [qAv];omega)));refine tkGo [5] ?_
   repeat (refine tkO (v:=?_) rfl ?_ ?_;rotate_left;(intro wy hSw;(try dsimp only at hSw);go_simp;(first|done|with_reducible rfl));try simp only [Act.put,p1q,p2q,p3q,p4q,p5q,p6q])
   refine tkEnd ?_;refine runO 6 (by kernel_rfl) rfl (by rfl) (fun KK hK=>?_);go_simp;refine hK.out _ _ a1.out (fun hHeld=>?_);clear hK KK
   try simp only [Act.put,p1q,p2q,p3q,p4q,p5q,p6q]
   refine wpAnyH_done (by kernel_rfl) ?_ _;clear m0 Q m2 m3 f0 f1 f2 f3 hHeld
   go_wp2_with (first
    | ((with_reducible refine wpList_load_mid ?pa7 156 (.tmp 3) ?pb7 w.heap.size 0 ?pc7 (stC r (s.set n ⟨1,a,c,0⟩)) _ a2.out Tryz.underlying156 ?pd7 aa.out ?pe7);(case pa7=>rfl);(case pb7=>rfl);(case pc7=>rfl);(case pd7=>rfl))
    | ((with_reducible refine wpList_store_mid ?ra7 156 (.tmp 6) (.tmp 35) ?rb7 (w.heap.size+1+1) 0 (stC r (s.set n ⟨1,a,c,0⟩)).toArray ?rc7 ?rd7 a6.out a9.out ak.out ?re7);(case ra7=>rfl);(case rb7=>rfl);(case rc7=>rfl);(case rd7=>rfl)))
   refine st_ret (n:=w.heap.size+1+1) rfl rfl ?_ z ?_
   ·exact (I.out.box qAv z).one
   ·exact (qAn (t:=⟨1,a,c,0⟩) (off:=1+n*4) G (Nat.le_refl _)).trans (qAg (qAd _ _ _ _) (by omega) (qAn (t:=⟨1,a,c,0⟩) (off:=1+n*4) G (Nat.le_refl _)).size)
  ·go_simp;refine hK.out _ _ (M.out _ (D.alloc V _)) (fun hHeld=>?_);clear hK KK
   try simp only [Act.put,p1q,p2q,p3q,p4q,p5q,p6q]
   refine runO 13 (by kernel_rfl) rfl (by rfl) (fun KK hK=>?_);go_simp
   go_at_call 141
   refine (lrefine_as af ai HJ _).mono ?_;rintro e O ⟨rfl,A⟩;obtain ⟨aq,n0,n1,g0,g1⟩:=bxs_kept A;have y:Bw Z O:=(D.alloc V _).trans (A.mono (by simp;omega));have B:Z.heap.size<=U.heap.size:=V;have ae:U.heap.size<O.heap.size:=aq;refine hK.out _ _ (M.out _ y) (fun hHeld=>?_);clear hK KK
   try simp only [Act.put,p1q,p2q,p3q,p4q,p5q,p6q]
   refine tkGo [14,15,16] ?_
   repeat (refine tkO (v:=?_) rfl ?_ ?_;rotate_left;(intro wy hSw;(try dsimp only at hSw);go_simp;(first|done|with_reducible rfl));try simp only [Act.put,p1q,p2q,p3q,p4q,p5q,p6q])
   refine tkEnd ?_;refine runO 18 (by kernel_rfl) rfl (by rfl) (fun KK hK=>?_);go_simp;refine hK.out _ _ (M.out _ (qAa (qAa y B) B)) (fun hHeld=>?_);clear hK KK
   try simp only [Act.put,p1q,p2q,p3q,p4q,p5q,p6q]
   refine tkGo [19] ?_
   repeat (refine tkO (v:=?_) rfl ?_ ?_;rotate_left;(intro wy hSw;(try dsimp only at hSw);go_simp;(first|done|with_reducible rfl));try simp only [Act.put,p1q,p2q,p3q,p4q,p5q,p6q])
   refine tkEnd ?_;refine wpAnyH_done (by kernel_rfl) ?_ _;obtain ⟨Y,k,HY,K,u,a3,e0,e1⟩:∃ Y k,Hid (Y=(O.setCell ⟨U.heap.size,0,none⟩ (U8 a)).setCell ⟨U.heap.size,1,none⟩ (U8 c))/\Hid (U.heap.size=k)/\Bw Z Y/\(k<Y.heap.size/\Z.heap.size<=k)/\Y.cell? ⟨k,0,none⟩=some (U8 a)/\Y.cell? ⟨k,1,none⟩=some (U8 c):=⟨_,_,rfl,rfl,qAa (qAa y B) B,⟨by simpa [World.setCell] using ae,B⟩,(qAk n0 n1).1,(qAk n0 n1).2⟩;rw [<- HY.out,K.out];clear HY K hHeld;go_wp2;have am:=u.size;have J:=X.out.trans (u.mono X.out.size);have a5:=keepJ (ah.out.below u (by omega));have a4:=keepJ (a0.out.below u (by omega));obtain ⟨x0,x1,T,x3,x4⟩:=Box.below ac.out u (by omega);refine wp_region_held_drew (S:=fun f=>f.cell? ⟨w.heap.size+1,2,none⟩=some (I4 n)/\f.cell? ⟨k,0,none⟩=some (U8 a)/\f.cell? ⟨k,1,none⟩=some (U8 c)) (by kernel_rfl) ⟨T,e0,e1⟩ (fun hHeld=>?_);refine tkGo [0,1,2,4] ?_
   repeat (refine tkO (v:=?_) rfl ?_ ?_;rotate_left;(intro wy hSw;(try dsimp only at hSw);go_simp;(first|done|with_reducible rfl));try simp only [Act.put,p1q,p2q,p3q,p4q,p5q,p6q])
   refine tkEnd ?_;refine runO 3 (by kernel_rfl) rfl (by rfl) (fun KK hK=>?_);go_simp
   go_at_call 131
   refine (lnumber_as a c Y.drew).mono ?_;rintro e E ⟨rfl,N⟩;have l:Bw Y E:=qAf N;have al:=l.size;have F:=keep3 ⟨T,e0,e1⟩ l (by omega) a3.1;have g:=keepJ (a4.out.below l (by omega));have a7:=keepJ (a5.out.below l (by omega));have G:=J.trans (l.mono J.size);refine hK.out _ _ F (fun hHeld=>?_);clear hK KK
   try simp only [Act.put,p1q,p2q,p3q,p4q,p5q,p6q]
   obtain ⟨m0,Q,m2,m3⟩:=(g.out.one.typ R.out hn:AtT E w.heap.size (0+1+n*4) (s.getD n Ty.nil));simp only [Nat.zero_add] at m0 Q m2 m3;have f0:=g.out.frozen (1+n*4);have f1:=g.out.frozen (1+n*4+1);have f2:=g.out.frozen (1+n*4+2);have f3:=g.out.frozen (1+n*4+3)
   have P:k≠w.heap.size:=by omega
   have a1:=keepJ (keep3s (sb:=w.heap.size) (o:=1+n*4) (t:=⟨1,a,c,0⟩) F (by omega) P);have a8:=keepJ (g.out.boxT R.out hn ⟨1,a,c,0⟩);have a2:=keepJ a8.out.oneR;have I:=keepJ (a7.out.grown (qAd w.heap.size (tyC ⟨1,a,c,0⟩) E (1+n*4)) (fun e=>by injection e with e;omega));have a6:=keepJ (show (setT E w.heap.size (1+n*4) ⟨1,a,c,0⟩).there (w.heap.size+1+1) 0 (stC r (s.set n ⟨1,a,c,0⟩)).toArray.size from (by rw [qCw r z];exact I.out.there (by rw [qAv];omega)));refine tkGo [5] ?_
   repeat (refine tkO (v:=?_) rfl ?_ ?_;rotate_left;(intro wy hSw;(try dsimp only at hSw);go_simp;(first|done|with_reducible rfl));try simp only [Act.put,p1q,p2q,p3q,p4q,p5q,p6q])
   refine tkEnd ?_;refine runO 6 (by kernel_rfl) rfl (by rfl) (fun KK hK=>?_);go_simp;refine hK.out _ _ a1.out (fun hHeld=>?_);clear hK KK
   try simp only [Act.put,p1q,p2q,p3q,p4q,p5q,p6q]
   refine wpAnyH_done (by kernel_rfl) ?_ _;clear m0 Q m2 m3 f0 f1 f2 f3 hHeld
   go_wp2_with (first
    | ((with_reducible refine wpList_load_mid ?pa8 156 (.tmp 3) ?pb8 w.heap.size 0 ?pc8 (stC r (s.set n ⟨1,a,c,0⟩)) _ a2.out Tryz.underlying156 ?pd8 aa.out ?pe8);(case pa8=>rfl);(case pb8=>rfl);(case pc8=>rfl);(case pd8=>rfl))
    | ((with_reducible refine wpList_store_mid ?ra8 156 (.tmp 6) (.tmp 35) ?rb8 (w.heap.size+1+1) 0 (stC r (s.set n ⟨1,a,c,0⟩)).toArray ?rc8 ?rd8 a6.out a9.out ak.out ?re8);(case ra8=>rfl);(case rb8=>rfl);(case rc8=>rfl);(case rd8=>rfl)))
   refine st_ret (n:=w.heap.size+1+1) rfl rfl ?_ z ?_
   ·exact (I.out.box qAv z).one
   ·exact (qAn (t:=⟨1,a,c,0⟩) (off:=1+n*4) G (Nat.le_refl _)).trans (qAg (qAd _ _ _ _) (by omega) (qAn (t:=⟨1,a,c,0⟩) (off:=1+n*4) G (Nat.le_refl _)).size)
 ·go_simp;have ao:Bw Z (Z.alloc (Obj.cells #[U8 0,U8 0] 151)):=(Below.refl _ _).alloc (Nat.le_refl _) _;refine hK.out _ _ (M.out _ (ao.drew)) (fun hHeld=>?_);clear hK KK
  try simp only [Act.put,p1q,p2q,p3q,p4q,p5q,p6q]
  refine runO 10 (by kernel_rfl) rfl (by rfl) (fun KK hK=>?_);go_simp
  go_at_call 110
  refine (qCg (i:=⟨op,d,n,b,L⟩) HT r _ R.out HB.out).mono ?_;rintro e U ⟨rfl,ab⟩;have ag:=qAf ab;obtain ⟨aj,m0,Q,k0,k1⟩:=bxs_kept ag;have D:Bw Z U:=ao.trans (ag.mono (by simp));have V:=D.size;refine hK.out _ _ (M.out _ D) (fun hHeld=>?_);clear hK KK
  try simp only [Act.put,p1q,p2q,p3q,p4q,p5q,p6q]
  refine tkGo [11] ?_
  repeat (refine tkO (v:=?_) rfl ?_ ?_;rotate_left;(intro wy hSw;(try dsimp only at hSw);go_simp;(first|done|with_reducible rfl));try simp only [Act.put,p1q,p2q,p3q,p4q,p5q,p6q])
  refine tkEnd ?_;refine runO 13 (by kernel_rfl) rfl (by rfl) (fun KK hK=>?_);go_simp
  go_at_call 141
  refine (lrefine_as af ai HJ U).mono ?_;rintro e O ⟨rfl,A⟩;have y:Bw Z O:=D.trans (A.mono V);obtain ⟨n0,n1,g0,g1⟩:=bxs_below ⟨m0,Q,k0,k1⟩ A aj;have B:Z.heap.size<=Z.heap.size:=Nat.le_refl _;have ae:Z.heap.size<O.heap.size:=Nat.lt_of_lt_of_le aj A.size;refine hK.out _ _ (M.out _ y) (fun hHeld=>?_);clear hK KK
  try simp only [Act.put,p1q,p2q,p3q,p4q,p5q,p6q]
  refine tkGo [14,15,16] ?_
  repeat (refine tkO (v:=?_) rfl ?_ ?_;rotate_left;(intro wy hSw;(try dsimp only at hSw);go_simp;(first|done|with_reducible rfl));try simp only [Act.put,p1q,p2q,p3q,p4q,p5q,p6q])
  refine tkEnd ?_;refine runO 18 (by kernel_rfl) rfl (by rfl) (fun KK hK=>?_);go_simp;refine hK.out _ _ (M.out _ (qAa (qAa y B) B)) (fun hHeld=>?_);clear hK KK
  try simp only [Act.put,p1q,p2q,p3q,p4q,p5q,p6q]
  refine tkGo [19] ?_
  repeat (refine tkO (v:=?_) rfl ?_ ?_;rotate_left;(intro wy hSw;(try dsimp only at hSw);go_simp;(first|done|with_reducible rfl));try simp only [Act.put,p1q,p2q,p3q,p4q,p5q,p6q])
  refine tkEnd ?_;refine wpAnyH_done (by kernel_rfl) ?_ _;obtain ⟨Y,k,HY,K,u,a3,e0,e1⟩:∃ Y k,Hid (Y=(O.setCell ⟨Z.heap.size,0,none⟩ (U8 a)).setCell ⟨Z.heap.size,1,none⟩ (U8 c))/\Hid (Z.heap.size=k)/\Bw Z Y/\(k<Y.heap.size/\Z.heap.size<=k)/\Y.cell? ⟨k,0,none⟩=some (U8 a)/\Y.cell? ⟨k,1,none⟩=some (U8 c):=⟨_,_,rfl,rfl,qAa (qAa y B) B,⟨by simpa [World.setCell] using ae,B⟩,(qAk n0 n1).1,(qAk n0 n1).2⟩;rw [<- HY.out,K.out];clear HY K hHeld;go_wp2;have am:=u.size;have J:=X.out.trans (u.mono X.out.size);have a5:=keepJ (ah.out.below u (by omega));have a4:=keepJ (a0.out.below u (by omega));obtain ⟨x0,x1,T,x3,x4⟩:=Box.below ac.out u (by omega);refine wp_region_held_drew (S:=fun f=>f.cell? ⟨w.heap.size+1,2,none⟩=some (I4 n)/\f.cell? ⟨k,0,none⟩=some (U8 a)/\f.cell? ⟨k,1,none⟩=some (U8 c)) (by kernel_rfl) ⟨T,e0,e1⟩ (fun hHeld=>?_);refine tkGo [0,1,2,4] ?_
  repeat (refine tkO (v:=?_) rfl ?_ ?_;rotate_left;(intro wy hSw;(try dsimp only at hSw);go_simp;(first|done|with_reducible rfl));try simp only [Act.put,p1q,p2q,p3q,p4q,p5q,p6q])
  refine tkEnd ?_;refine runO 3 (by kernel_rfl) rfl (by rfl) (fun KK hK=>?_);go_simp
  go_at_call 131
  refine (lnumber_as a c Y.drew).mono ?_;rintro e E ⟨rfl,N⟩;have l:Bw Y E:=qAf N;have al:=l.size;have F:=keep3 ⟨T,e0,e1⟩ l (by omega) a3.1;have g:=keepJ (a4.out.below l (by omega));have a7:=keepJ (a5.out.below l (by omega));have G:=J.trans (l.mono J.size);refine hK.out _ _ F (fun hHeld=>?_);clear hK KK
  try simp only [Act.put,p1q,p2q,p3q,p4q,p5q,p6q]
  obtain ⟨m0,Q,m2,m3⟩:=(g.out.one.typ R.out hn:AtT E w.heap.size (0+1+n*4) (s.getD n Ty.nil));simp only [Nat.zero_add] at m0 Q m2 m3;have f0:=g.out.frozen (1+n*4);have f1:=g.out.frozen (1+n*4+1);have f2:=g.out.frozen (1+n*4+2);have f3:=g.out.frozen (1+n*4+3)
  have P:k≠w.heap.size:=by omega
  have a1:=keepJ (keep3s (sb:=w.heap.size) (o:=1+n*4) (t:=⟨1,a,c,0⟩) F (by omega) P);have a8:=keepJ (g.out.boxT R.out hn ⟨1,a,c,0⟩);have a2:=keepJ a8.out.oneR;have I:=keepJ (a7.out.grown (qAd w.heap.size (tyC ⟨1,a,c,0⟩) E (1+n*4)) (fun e=>by injection e with e;omega));have a6:=keepJ (show (setT E w.heap.size (1+n*4) ⟨1,a,c,0⟩).there (w.heap.size+1+1) 0 (stC r (s.set n ⟨1,a,c,0⟩)).toArray.size from (by rw [qCw r z];exact I.out.there (by rw [qAv];omega)));refine tkGo [5] ?_
  repeat (refine tkO (v:=?_) rfl ?_ ?_;rotate_left;(intro wy hSw;(try dsimp only at hSw);go_simp;(first|done|with_reducible rfl));try simp only [Act.put,p1q,p2q,p3q,p4q,p5q,p6q])
  refine tkEnd ?_;refine runO 6 (by kernel_rfl) rfl (by rfl) (fun KK hK=>?_);go_simp;refine hK.out _ _ a1.out (fun hHeld=>?_);clear hK KK
  try simp only [Act.put,p1q,p2q,p3q,p4q,p5q,p6q]
  refine wpAnyH_done (by kernel_rfl) ?_ _;clear m0 Q m2 m3 f0 f1 f2 f3 hHeld
  go_wp2_with (first
   | ((with_reducible refine wpList_load_mid ?pa9 156 (.tmp 3) ?pb9 w.heap.size 0 ?pc9 (stC r (s.set n ⟨1,a,c,0⟩)) _ a2.out Tryz.underlying156 ?pd9 aa.out ?pe9);(case pa9=>rfl);(case pb9=>rfl);(case pc9=>rfl);(case pd9=>rfl))
   | ((with_reducible refine wpList_store_mid ?ra9 156 (.tmp 6) (.tmp 35) ?rb9 (w.heap.size+1+1) 0 (stC r (s.set n ⟨1,a,c,0⟩)).toArray ?rc9 ?rd9 a6.out a9.out ak.out ?re9);(case ra9=>rfl);(case rb9=>rfl);(case rc9=>rfl);(case rd9=>rfl)))
  refine st_ret (n:=w.heap.size+1+1) rfl rfl ?_ z ?_
  ·exact (I.out.box qAv z).one
  ·exact (qAn (t:=⟨1,a,c,0⟩) (off:=1+n*4) G (Nat.le_refl _)).trans (qAg (qAd _ _ _ _) (by omega) (qAn (t:=⟨1,a,c,0⟩) (off:=1+n*4) G (Nat.le_refl _)).size)
-- YES END
def refS (i:In) (r:Bool) (s:St) (holds:Bool):Bool×St :=
 match refineR i.op (regT s i.a).lo (regT s i.a).hi (srcT i s).lo (srcT i s).hi holds with
 | none=>(false,stZ)
 | some p=>(r,s.set i.a.toNat (num2 p.1 p.2))
theorem lrefined_any (nm:Nat)(i:In)(r:Bool)(s:St)(c:Bool)(w:World)(o:Made8 nm s)(k:0<=i.a/\i.a<=7)(g:i.b=8∨(0<=i.b/\i.b<=7)):Cl 118 #[stV r s,i.v,.bool c] w fun e y=>e=.returned (stV (refS i r s c).1 (refS i r s c).2)/\Bw w y:=by
 obtain ⟨op,d,a,b,f⟩:=i;simp only at k g;obtain ⟨n,rfl⟩:=Int.eq_ofNat_of_zero_le k.1
 have l:n<8:=by omega
 have u:regT s (n:Int)=s.getD n Ty.nil:=rfl;unfold refS;simp only;rw [u]
 cases hq:refineR op (s.getD n Ty.nil).lo (s.getD n Ty.nil).hi (srcT ⟨op,d,n,b,f⟩ s).lo (srcT ⟨op,d,n,b,f⟩ s).hi c with
 | none=>exact lrefined_no nm op d b f n r s c w o l g 0 0 _ _ _ _ _ _ _ _ rfl rfl (show optV (refineR op (s.getD n Ty.nil).lo (s.getD n Ty.nil).hi (srcT ⟨op,d,n,b,f⟩ s).lo (srcT ⟨op,d,n,b,f⟩ s).hi c)=_ by rw [hq];rfl)
 | some p=>exact lrefined_yes nm op d b f n r s c w o l g p.1 p.2 _ _ _ _ _ _ _ _ rfl rfl (show optV (refineR op (s.getD n Ty.nil).lo (s.getD n Ty.nil).hi (srcT ⟨op,d,n,b,f⟩ s).lo (srcT ⟨op,d,n,b,f⟩ s).hi c)=_ by rw [hq];rfl)
end Go.Proofs.YtmdhljoicnommaaGreat
