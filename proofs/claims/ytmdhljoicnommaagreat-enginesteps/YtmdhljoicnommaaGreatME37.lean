/-
  JMade
  JWrit
  JRef
-/
import Derived.Test.YtmdhljoicnommaaGreatME33
import Derived.Test.YtmdhljoicnommaaGreatME18
import Derived.Test.YtmdhljoicnommaaGreatME22
namespace Go.Proofs.YtmdhljoicnommaaGreat
set_option maxHeartbeats 12800000
open Go.RowKit
set_option linter.unusedVariables false
set_option linter.unusedSimpArgs false
set_option maxRecDepth 100000
def qQu (i:In) (s:St):Ty:=if i.op=0 then qBa i s else if i.op=11∨i.op=13 then qEe else if i.op=14 then ⟨2,0,0,i.imm⟩ else if i.op=21 then (qCs i.imm).1 else doT i.op (qBg s i.a) (qBa i s)
theorem qRf (w:World)(r:Bool)(s:St)(op d a b c:Int):∃ Z,Hid (Z=((w.alloc (Obj.cells (stC r s).toArray 156)).alloc (qBr op d a b c)).alloc (Obj.cells #[I4 0,U8 0,U8 0,I4 0] 153))/\Hid (Hp Z w.heap.size 156 (stC r s))/\Hid (Box Z (w.heap.size+1) op d a b c)/\Hid (BxT Z (w.heap.size+1+1) 0 ⟨0,0,0,0⟩)/\Hid (Bw w Z)/\(Z.heap.size<=w.heap.size+3/\w.heap.size+3<=Z.heap.size) :=
 ⟨_,rfl,((Hp.new w (stC r s) _).alloc _).alloc _,⟨by go_cell,by go_cell,by go_cell,by go_cell,by go_cell⟩,⟨⟨by go_cell,by go_cell,by go_cell,by go_cell⟩,by go_simp,by go_simp,by go_simp,by go_simp⟩,qAa (by go_grown),by simp⟩
theorem BxT.open {w:World}{n:Nat}{t:Ty}(h:BxT w n 0 t):w.cell? ⟨n,0,none⟩=some (I4 t.k)/\w.cell? ⟨n,1,none⟩=some (U8 t.lo)/\w.cell? ⟨n,2,none⟩=some (U8 t.hi)/\w.cell? ⟨n,3,none⟩=some (I4 t.m)/\w.frozen? ⟨n,0,none⟩=false/\w.frozen? ⟨n,1,none⟩=false/\w.frozen? ⟨n,2,none⟩=false/\w.frozen? ⟨n,3,none⟩=false:=by
 obtain ⟨⟨h0,f,i,d⟩,g,c,b,a⟩:=h;exact ⟨h0,f,i,d,g,c,b,a⟩
theorem qVz {i:In}{t:Ty}{s:St}(h:Hid (qBa i s=t))(r:Bool)(w:World)(d:s.length=8)(c:i.b=8∨(0<=i.b/\i.b<=7)):Cl 110 #[stV r s,i.v] w fun e a=>e=.returned (tyV t)/\Bw w a:=by
 rw [<- h.out];exact yEl i r s w d c
theorem yPg (nm:Nat)(d a b c:Int)(r:Bool)(s:St)(w:World)(l:Made8 nm s)(F:b=8∨(0<=b/\b<=7)):Cl 142 #[stV r s,In.v ⟨0,d,a,b,c⟩] w fun e K=>e=.returned (tyV (qBa ⟨0,d,a,b,c⟩ s))/\Bw w K:=by
 obtain ⟨E,L,G,M,A⟩:∃ k lo hi m,Hid (qBa ⟨0,d,a,b,c⟩ s=⟨k,lo,hi,m⟩):=⟨_,_,_,_,rfl⟩;rw [A.out];obtain ⟨Z,z,D,B,u,g,N⟩:=qRf w r s 0 d a b c;obtain ⟨y0,Q,X,U,T⟩:=B.out
 have J:Hid ((((w.alloc (Obj.cells (stC r s).toArray 156)).alloc (qBr 0 d a b c)).alloc (Obj.cells #[I4 0,U8 0,U8 0,I4 0] 153)).rangeAt w.heap.size 0 (stC r s)):=by
  have:=D.out.one;rw [z.out] at this;exact this
 have o:=qAa (qHf (r:=r) l.1);go_enter Tryz.func142,Tryz.ntmps142
 go_wp2_with (first
  | ((with_reducible refine wpList_load_mid ?qa 156 (.tmp 2) ?qb w.heap.size 0 ?qc (stC r s) _ J.out Tryz.underlying156 ?qd o.out ?qe);(case qa=>rfl);(case qb=>rfl);(case qc=>rfl);(case qd=>rfl);rw [<- z.out])
  | (go_at_call 110;go_must (refine (qVz (i:=⟨0,d,a,b,c⟩) A r _ l.1 F).mono ?_);rintro e I ⟨rfl,f⟩;go_must (have n:Hid (BxT I (w.heap.size+1+1) 0 ⟨0,0,0,0⟩):=BxT.below u.out f (by omega);have y:=g.out.trans (f.mono g.out.size);obtain ⟨S,O,R,c3,V,Y,f2,P⟩:=BxT.open n.out;clear f)))
 exact qEg rfl rfl (t:=⟨E,L,G,M⟩) n.out y (by omega)
theorem yCo (d a b i:Int)(r:Bool)(s:St)(w:World):Cl 142 #[stV r s,In.v ⟨11,d,a,b,i⟩] w fun e y=>e=.returned (tyV qEe)/\Bw w y:=by
 obtain ⟨Z,z,D,B,n,g,A⟩:=qRf w r s 11 d a b i;go_enter Tryz.func142,Tryz.ntmps142
 go_wp2_with (first
  | (go_at_call 133;rw [<- z.out];go_must (refine (qDy _).mono ?_);rintro e G ⟨rfl,f⟩)
  | (go_at_call 131;go_must (refine (qEt _ _ _).mono ?_);rintro e o ⟨rfl,k⟩;go_must (have c:Bw Z o:=f.trans (k.mono f.size);have l:Hid (BxT o (w.heap.size+1+1) 0 ⟨0,0,0,0⟩):=BxT.below n.out c (by omega);have u:=g.out.trans (c.mono g.out.size);obtain ⟨J,E,I,M,K,L,N,F⟩:=BxT.open l.out;clear f k c)))
 exact qEg rfl rfl (t:=qEe) l.out u (by omega)
theorem yCz (d a b i:Int)(r:Bool)(s:St)(w:World):Cl 142 #[stV r s,In.v ⟨13,d,a,b,i⟩] w fun e y=>e=.returned (tyV qEe)/\Bw w y:=by
 obtain ⟨Z,z,D,B,n,g,A⟩:=qRf w r s 13 d a b i;go_enter Tryz.func142,Tryz.ntmps142
 go_wp2_with (first
  | (go_at_call 133;rw [<- z.out];go_must (refine (qDy _).mono ?_);rintro e G ⟨rfl,f⟩)
  | (go_at_call 131;go_must (refine (qEt _ _ _).mono ?_);rintro e o ⟨rfl,k⟩;go_must (have c:Bw Z o:=f.trans (k.mono f.size);have l:Hid (BxT o (w.heap.size+1+1) 0 ⟨0,0,0,0⟩):=BxT.below n.out c (by omega);have u:=g.out.trans (c.mono g.out.size);obtain ⟨J,E,I,M,K,L,N,F⟩:=BxT.open l.out;clear f k c)))
 exact qEg rfl rfl (t:=qEe) l.out u (by omega)
theorem yNo (d a b c:Int)(r:Bool)(s:St)(w:World):Cl 142 #[stV r s,In.v ⟨14,d,a,b,c⟩] w fun e f=>e=.returned (tyV ⟨2,0,0,c⟩)/\Bw w f:=by
 go_enter Tryz.func142,Tryz.ntmps142;go_wp2;refine bodyPost_ret (v:=tyV ⟨2,0,0,c⟩) ?_ rfl ⟨rfl,by go_grown⟩;rw [qAw rfl]
 simp [asAddr,Result.andThen]
 rw [qFl (k:=2) (lo:=0) (hi:=0) (m:=c)]
 refine ⟨?_,?_,?_,?_⟩<;>go_cell
theorem yMk {d:Func}{p:Tmp}{w a:World}{n B:Nat}{b:Array Value}{k t:Ty}{o:Obj}(f:d.results=#[.cell p 153])(g:b.getD p undef=.pointer (some ⟨n,0,none⟩))(c:BxT a n 0 k)(r:Below B w a)(l:B<=n):bodyPost Tryz.prog d (fun e i=>e=.returned (tyV t)/\Below B w i) .ret ⟨b,[]⟩ ((setT a n 0 t).alloc o):=by
 have s:n<a.heap.size:=World.block_lt_of_cell? a _ c.1.1;have u:a.heap.size<=(setT a n 0 t).heap.size:=(qAd n (tyC t) a 0).size;refine bodyPost_ret (v:=tyV t) ?_ rfl ⟨rfl,(qAz r l).alloc (by omega) _⟩;rw [qAw f,g];simp only [asAddr,Sem.run_pure,Result.andThen];rw [qFl ((c.1.set t).below ((Below.refl _ _).alloc (Nat.le_refl _) o) (by omega))]
theorem yQy {h k lo hi m:Int}{a:Bool}(c:Hid (qCs h=(⟨k,lo,hi,m⟩,a)))(w:World):Cl 156 #[I4 h] w fun e b=>e=.returned (.tuple #[tyV ⟨k,lo,hi,m⟩,.bool a])/\Bw w b:=by
 have:=yId h w;rw [c.out] at this;exact this
theorem yHk (d a b f:Int)(r:Bool)(s:St)(w:World):Cl 142 #[stV r s,In.v ⟨21,d,a,b,f⟩] w fun e z=>e=.returned (tyV (qCs f).1)/\Bw w z:=by
 obtain ⟨k,lo,hi,m,n,l⟩:∃ k lo hi m n,Hid (qCs f=(⟨k,lo,hi,m⟩,n)):=⟨_,_,_,_,_,rfl⟩;rw [l.out];obtain ⟨Z,A,I,G,u,i,B⟩:=qRf w r s 21 d a b f;go_enter Tryz.func142,Tryz.ntmps142
 go_wp2_with (first
  | (go_at_call 156;rw [<- A.out];go_must (refine (yQy l _).mono ?_);rintro e g ⟨rfl,c⟩;go_must (have o:Hid (BxT g (w.heap.size+1+1) 0 ⟨0,0,0,0⟩):=BxT.below u.out c (by omega);have y:=i.out.trans (c.mono i.out.size);have E:=c.size;obtain ⟨N,K,M,Q,O,P,R,L⟩:=BxT.open o.out;have F:¬ w.heap.size+1+1=g.heap.size:=(by omega);have J:¬ g.heap.size=w.heap.size+1+1:=(by omega);have D:w.heap.size+1+1<g.heap.size:=(by omega);clear c)))
 exact yMk rfl rfl (t:=⟨k,lo,hi,m⟩) o.out y (by omega)
theorem yBr {op a A b B i c:Int}{g:Bool}(f:Hid (wfS (a,A)))(d:Hid (wfS (b,B)))(h:Hid (qBh (doR op a A b B)=.tuple #[.agg #[U8 i,U8 c],.bool g]))(w:World):Cl 157 #[I4 op,.agg #[U8 a,U8 A],.agg #[U8 b,U8 B]] w fun e k=>e=.returned (.tuple #[.agg #[U8 i,U8 c],.bool g])/\Bw w k:=by
 rw [<- h.out];exact yXs op a A b B w f.out.1 f.out.2 d.out.1 d.out.2
theorem qJy {op a A b B i c:Int}{g h:Bool}(f:Hid (wfS (a,A)))(d:Hid (wfS (b,B)))(l:Hid (qBh (qDb op a A b B h)=.tuple #[.agg #[U8 i,U8 c],.bool g]))(w:World):Cl 141 #[I4 op,.agg #[U8 a,U8 A],.agg #[U8 b,U8 B],.bool h] w fun e k=>e=.returned (.tuple #[.agg #[U8 i,U8 c],.bool g])/\Bw w k:=by
 rw [<- l.out];exact yFo op a A b B h w f.out.1 f.out.2 d.out.1 d.out.2
theorem qEs {i:In}{k lo hi m:Int}{s:St}(h:Hid (qBa i s=⟨k,lo,hi,m⟩))(r:Bool)(w:World)(d:s.length=8)(c:i.b=8∨(0<=i.b/\i.b<=7)):Cl 110 #[stV r s,i.v] w fun e a=>e=.returned (.agg #[I4 k,U8 lo,U8 hi,I4 m])/\Bw w a:=qVz h r w d c
theorem qOp {w a:World}{n:Nat}{x y:Value}(h:w.cell? ⟨n,0,none⟩=some x/\w.cell? ⟨n,1,none⟩=some y/\w.frozen? ⟨n,0,none⟩=false/\w.frozen? ⟨n,1,none⟩=false)(b:Bw w a)(c:n<w.heap.size):a.cell? ⟨n,0,none⟩=some x/\a.cell? ⟨n,1,none⟩=some y/\a.frozen? ⟨n,0,none⟩=false/\a.frozen? ⟨n,1,none⟩=false:=by
 rw [b.cell (p:=⟨n,0,none⟩) c,b.cell (p:=⟨n,1,none⟩) c,b.frozen (p:=⟨n,0,none⟩) c,b.frozen (p:=⟨n,1,none⟩) c];exact h
theorem qLw {w a:World}{x y:Value}{T:TypeId}(b:Below (w.alloc (Obj.cells #[x,y] T)).heap.size (w.alloc (Obj.cells #[x,y] T)) a):w.heap.size<a.heap.size/\a.cell? ⟨w.heap.size,0,none⟩=some x/\a.cell? ⟨w.heap.size,1,none⟩=some y/\a.frozen? ⟨w.heap.size,0,none⟩=false/\a.frozen? ⟨w.heap.size,1,none⟩=false:=by
 have c:w.heap.size<(w.alloc (Obj.cells #[x,y] T)).heap.size:=by simp
 exact ⟨Nat.lt_of_lt_of_le c b.size,qOp ⟨by go_cell,by go_cell,by go_simp,by go_simp⟩ b c⟩
theorem yVg (nm:Nat)(op d a b z:Int)(r:Bool)(s:St)(w:World)(h8:Made8 nm s)(a4:1<=op/\op<=10)(ha:0<=a/\a<=7)(hb:b=8∨(0<=b/\b<=7)):Cl 142 #[stV r s,In.v ⟨op,d,a,b,z⟩] w fun e f=>e=.returned (tyV (doT op (qBg s a) (qBa ⟨op,d,a,b,z⟩ s)))/\Bw w f:=by
 obtain ⟨n,rfl⟩:=Int.eq_ofNat_of_zero_le ha.1
 have hn:n<8:=by omega
 obtain ⟨sk,Q,R,sm,HS⟩:∃ k lo hi m,Hid (s.getD n Ty.nil=⟨k,lo,hi,m⟩):=⟨_,_,_,_,rfl⟩;obtain ⟨tk,tl,th,tm,HT⟩:∃ k lo hi m,Hid (qBa ⟨op,d,n,b,z⟩ s=⟨k,lo,hi,m⟩):=⟨_,_,_,_,rfl⟩
 obtain ⟨A,B,ok,HJ,HE⟩:∃ A B ok,Hid (qBh (doR op Q R tl th)=.tuple #[.agg #[U8 A,U8 B],.bool ok])/\Hid (doT op (qBg s n) (qBa ⟨op,d,n,b,z⟩ s)=⟨1,A,B,0⟩):=by
  have e1:qBg s n=⟨sk,Q,R,sm⟩:=HS.out;unfold doT;rw [HT.out,e1]
  cases doR op Q R tl th with
  | none=>exact ⟨0,0,false,rfl,rfl⟩
  | some q=>exact ⟨q.1,q.2,true,rfl,rfl⟩
 rw [HE.out]
 have X:Hid (wfS (Q,R)):=by have:=h8.ends hn;rw [HS.out] at this;exact this
 have a2:Hid (wfS (tl,th)):=by have:=(qJh (i:=⟨op,d,n,b,z⟩) h8 hb).ends;rw [HT.out] at this;exact this
 have ae:¬ op=0:=by omega
 have af:¬ op=11:=by omega
 have aj:¬ op=13:=by omega
 have ag:¬ op=14:=by omega
 have ad:¬ op=21:=by omega
 obtain ⟨Z,HZ,a5,a9,a1,K,ac⟩:=qRf w r s op d n b z;have H8:=qAa h8.1;have HB:=qAa hb;have ai:=qAa a4
 have ah:(n:Int)<8:=by omega
 clear h8 hb a4 ha;go_enter Tryz.func142,Tryz.ntmps142;go_wp2;rw [<- HZ.out];clear HZ;obtain ⟨y0,y1,y2,y3,y4⟩:=id a9.out;have hsz:=a5.out.lt
 have ab:∀ wy:World,(Instr.field 153 (.agg #[I4 tk,U8 tl,U8 th,I4 tm]) 1).run Tryz.prog wy=.ok (.agg #[U8 tl,U8 th]) wy:=fun _=>by kernel_rfl
 have G:Hid (∀ f,Bw Z f->f.cell? ⟨w.heap.size+1,0,none⟩=some (I4 op)/\f.cell? ⟨w.heap.size+1,1,none⟩=some (I4 d)/\f.cell? ⟨w.heap.size+1,2,none⟩=some (I4 n)/\f.cell? ⟨w.heap.size+1,3,none⟩=some (I4 b)/\f.cell? ⟨w.heap.size+1,4,none⟩=some (I4 z)/\f.cell? ⟨w.heap.size,1+n*4+1,none⟩=some (U8 Q)/\f.cell? ⟨w.heap.size,1+n*4+1+1,none⟩=some (U8 R)/\StAt f w.heap.size 0 r s/\True):=fun f a7=>by
  obtain ⟨q0,q1,q2,q3⟩:=qPd (r:=r) H8.out hn HS.out;have hh:=a5.out.below a7 hsz;obtain ⟨x0,x1,x2,x3,x4⟩:=Box.below a9.out a7 (by omega);exact ⟨x0,x1,x2,x3,x4,hh.cell q1,hh.cell q2,hh.one,trivial⟩
 refine wp_region_held_drew (S:=fun f=>f.cell? ⟨w.heap.size+1,0,none⟩=some (I4 op)/\f.cell? ⟨w.heap.size+1,1,none⟩=some (I4 d)/\f.cell? ⟨w.heap.size+1,2,none⟩=some (I4 n)/\f.cell? ⟨w.heap.size+1,3,none⟩=some (I4 b)/\f.cell? ⟨w.heap.size+1,4,none⟩=some (I4 z)/\f.cell? ⟨w.heap.size,1+n*4+1,none⟩=some (U8 Q)/\f.cell? ⟨w.heap.size,1+n*4+1+1,none⟩=some (U8 R)/\StAt f w.heap.size 0 r s/\True) (by kernel_rfl) (G.out _ (Below.refl _ _).drew) (fun hHeld=>?_);clear y0 y1 y2 y3 y4
-- DO BEGIN
 refine qBb [0,1,2,3,4,5,6,7] ?_
 repeat (refine tkO (v:=?_) rfl ?_ ?_;rotate_left;(intro wy hSw;(try dsimp only at hSw);go_simp;(first|done|with_reducible rfl));try simp only [Act.put,p1q,p2q,p3q,p4q,p5q,p6q])
 refine qAs ?_;refine wpAnyH_take (i:=8) rfl (by kernel_rfl) (by kernel_rfl) (by kernel_rfl) (fun _ _ _ h=>h) (yieldsIf_load_mid (by rfl) _ _ rfl _ _ rfl (stC r s) _ (fun w h=>h.2.2.2.2.2.2.2.1) Tryz.underlying156 rfl (qHf H8.out)) (by assumption) ?_
 try simp only [Act.put,p1q,p2q,p3q,p4q,p5q,p6q]
 refine qBb [9] ?_
 repeat (refine tkO (v:=?_) rfl ?_ ?_;rotate_left;(intro wy hSw;(try dsimp only at hSw);go_simp;(first|done|with_reducible rfl));try simp only [Act.put,p1q,p2q,p3q,p4q,p5q,p6q])
 refine qAs ?_;refine qOc 10 16 (by kernel_rfl) rfl rfl (by rfl) (by rfl) (fun KK hK=>?_) (fun KK hK=>?_)
 ·go_simp
  go_at_call 110
  refine (qEs (i:=⟨op,d,n,b,z⟩) HT r Z.drew H8.out HB.out).mono ?_;rintro e J ⟨rfl,P⟩;have D:Bw Z J:=qAg P;have L:=D.size;refine hK.out _ _ (G.out _ D) (fun hHeld=>?_);clear hK KK
  try simp only [Act.put,p1q,p2q,p3q,p4q,p5q,p6q]
  refine qBb [11] ?_
  repeat (refine tkO (v:=?_) rfl ?_ ?_;rotate_left;(intro wy hSw;(try dsimp only at hSw);go_simp;(first|done|with_reducible rfl));try simp only [Act.put,p1q,p2q,p3q,p4q,p5q,p6q])
  refine qAs ?_;refine qOc 12 16 (by kernel_rfl) rfl rfl (by rfl) (by rfl) (fun KK hK=>?_) (fun KK hK=>?_)
  ·go_simp
   go_at_call 157
   refine (yBr X a2 HJ J).mono ?_;rintro e I ⟨rfl,o⟩;have c:Bw Z I:=D.trans (o.mono L);refine hK.out _ _ (G.out _ c) (fun hHeld=>?_);clear hK KK
   try simp only [Act.put,p1q,p2q,p3q,p4q,p5q,p6q]
   refine qBb [13,14,15] ?_
   repeat (refine tkO (v:=?_) rfl ?_ ?_;rotate_left;(intro wy hSw;(try dsimp only at hSw);go_simp;(first|done|with_reducible rfl));try simp only [Act.put,p1q,p2q,p3q,p4q,p5q,p6q])
   refine qAs ?_;refine qAr 16 (by kernel_rfl) rfl (by rfl) (fun KK hK=>?_);go_simp;refine hK.out _ _ (G.out _ (c.alloc c.size _)) (fun hHeld=>?_);clear hK KK
   try simp only [Act.put,p1q,p2q,p3q,p4q,p5q,p6q]
   refine qAr 17 (by kernel_rfl) rfl (by rfl) (fun KK hK=>?_);go_simp;refine hK.out _ _ (G.out _ (c.alloc c.size _)) (fun hHeld=>?_);clear hK KK
   try simp only [Act.put,p1q,p2q,p3q,p4q,p5q,p6q]
   refine qBb [18] ?_
   repeat (refine tkO (v:=?_) rfl ?_ ?_;rotate_left;(intro wy hSw;(try dsimp only at hSw);go_simp;(first|done|with_reducible rfl));try simp only [Act.put,p1q,p2q,p3q,p4q,p5q,p6q])
   refine qAs ?_;refine wpAnyH_done (by kernel_rfl) ?_ _;obtain ⟨Y,g,M,E,u,a8,e0,e1⟩:∃ Y g,Hid (Y=I.alloc (Obj.cells #[U8 A,U8 B] 151))/\Hid (I.heap.size=g)/\Bw Z Y/\(g<Y.heap.size/\Z.heap.size<=g)/\Y.cell? ⟨g,0,none⟩=some (U8 A)/\Y.cell? ⟨g,1,none⟩=some (U8 B):=⟨_,_,rfl,rfl,c.alloc c.size _,⟨by simp,c.size⟩,by go_cell,by go_cell⟩;rw [<- M.out,E.out];clear M E hHeld;have T:Hid (BxT Y (w.heap.size+1+1) 0 ⟨0,0,0,0⟩):=BxT.below a1.out u (by omega);have O:=u.size
   go_wp2_with (go_at_call 131;go_must (refine (qEt A B _).mono ?_);rintro e U ⟨rfl,y⟩;go_must (have F:Hid (BxT U (w.heap.size+1+1) 0 ⟨0,0,0,0⟩):=BxT.below T.out y (by omega);have N:=K.out.trans ((u.trans (y.mono O)).mono K.out.size);obtain ⟨c0,c1,c2,c3,f0,f1,f2,f3⟩:=BxT.open F.out;clear y))
   exact qEg rfl rfl (t:=⟨1,A,B,0⟩) F.out N (by omega)
  ·go_simp;refine hK.out _ _ (G.out _ (D.alloc L _)) (fun hHeld=>?_);clear hK KK
   try simp only [Act.put,p1q,p2q,p3q,p4q,p5q,p6q]
   refine qAr 12 (by kernel_rfl) rfl (by rfl) (fun KK hK=>?_);go_simp
   go_at_call 157
   refine (yBr X a2 HJ _).mono ?_;rintro e I ⟨rfl,o⟩;obtain ⟨aa,n0,n1,g0,g1⟩:=qLw o;have c:Bw Z I:=(D.alloc L _).trans (o.mono (by simp;omega));have l:Z.heap.size<=J.heap.size:=L;have a3:J.heap.size<I.heap.size:=aa;refine hK.out _ _ (G.out _ c) (fun hHeld=>?_);clear hK KK
   try simp only [Act.put,p1q,p2q,p3q,p4q,p5q,p6q]
   refine qBb [13,14,15] ?_
   repeat (refine tkO (v:=?_) rfl ?_ ?_;rotate_left;(intro wy hSw;(try dsimp only at hSw);go_simp;(first|done|with_reducible rfl));try simp only [Act.put,p1q,p2q,p3q,p4q,p5q,p6q])
   refine qAs ?_;refine qAr 17 (by kernel_rfl) rfl (by rfl) (fun KK hK=>?_);go_simp;refine hK.out _ _ (G.out _ (qAb (qAb c l) l)) (fun hHeld=>?_);clear hK KK
   try simp only [Act.put,p1q,p2q,p3q,p4q,p5q,p6q]
   refine qBb [18] ?_
   repeat (refine tkO (v:=?_) rfl ?_ ?_;rotate_left;(intro wy hSw;(try dsimp only at hSw);go_simp;(first|done|with_reducible rfl));try simp only [Act.put,p1q,p2q,p3q,p4q,p5q,p6q])
   refine qAs ?_;refine wpAnyH_done (by kernel_rfl) ?_ _;obtain ⟨Y,g,M,E,u,a8,e0,e1⟩:∃ Y g,Hid (Y=(I.setCell ⟨J.heap.size,0,none⟩ (U8 A)).setCell ⟨J.heap.size,1,none⟩ (U8 B))/\Hid (J.heap.size=g)/\Bw Z Y/\(g<Y.heap.size/\Z.heap.size<=g)/\Y.cell? ⟨g,0,none⟩=some (U8 A)/\Y.cell? ⟨g,1,none⟩=some (U8 B):=⟨_,_,rfl,rfl,qAb (qAb c l) l,⟨by simpa [World.setCell] using a3,l⟩,(qAp n0 n1).1,(qAp n0 n1).2⟩;rw [<- M.out,E.out];clear M E hHeld;have T:Hid (BxT Y (w.heap.size+1+1) 0 ⟨0,0,0,0⟩):=BxT.below a1.out u (by omega);have O:=u.size
   go_wp2_with (go_at_call 131;go_must (refine (qEt A B _).mono ?_);rintro e U ⟨rfl,y⟩;go_must (have F:Hid (BxT U (w.heap.size+1+1) 0 ⟨0,0,0,0⟩):=BxT.below T.out y (by omega);have N:=K.out.trans ((u.trans (y.mono O)).mono K.out.size);obtain ⟨c0,c1,c2,c3,f0,f1,f2,f3⟩:=BxT.open F.out;clear y))
   exact qEg rfl rfl (t:=⟨1,A,B,0⟩) F.out N (by omega)
 ·go_simp;have a6:Bw Z (Z.alloc (Obj.cells #[U8 0,U8 0] 151)):=(Below.refl _ _).alloc (Nat.le_refl _) _;refine hK.out _ _ (G.out _ (a6.drew)) (fun hHeld=>?_);clear hK KK
  try simp only [Act.put,p1q,p2q,p3q,p4q,p5q,p6q]
  refine qAr 10 (by kernel_rfl) rfl (by rfl) (fun KK hK=>?_);go_simp
  go_at_call 110
  refine (qEs (i:=⟨op,d,n,b,z⟩) HT r _ H8.out HB.out).mono ?_;rintro e J ⟨rfl,P⟩;have a0:=qAg P;obtain ⟨V,m0,m1,k0,k1⟩:=qLw a0;have D:Bw Z J:=a6.trans (a0.mono (by simp));have L:=D.size;refine hK.out _ _ (G.out _ D) (fun hHeld=>?_);clear hK KK
  try simp only [Act.put,p1q,p2q,p3q,p4q,p5q,p6q]
  refine qBb [11] ?_
  repeat (refine tkO (v:=?_) rfl ?_ ?_;rotate_left;(intro wy hSw;(try dsimp only at hSw);go_simp;(first|done|with_reducible rfl));try simp only [Act.put,p1q,p2q,p3q,p4q,p5q,p6q])
  refine qAs ?_;refine qAr 12 (by kernel_rfl) rfl (by rfl) (fun KK hK=>?_);go_simp
  go_at_call 157
  refine (yBr X a2 HJ J).mono ?_;rintro e I ⟨rfl,o⟩;have c:Bw Z I:=D.trans (o.mono L);obtain ⟨n0,n1,g0,g1⟩:=qOp ⟨m0,m1,k0,k1⟩ o V;have l:Z.heap.size<=Z.heap.size:=Nat.le_refl _;have a3:Z.heap.size<I.heap.size:=Nat.lt_of_lt_of_le V o.size;refine hK.out _ _ (G.out _ c) (fun hHeld=>?_);clear hK KK
  try simp only [Act.put,p1q,p2q,p3q,p4q,p5q,p6q]
  refine qBb [13,14,15] ?_
  repeat (refine tkO (v:=?_) rfl ?_ ?_;rotate_left;(intro wy hSw;(try dsimp only at hSw);go_simp;(first|done|with_reducible rfl));try simp only [Act.put,p1q,p2q,p3q,p4q,p5q,p6q])
  refine qAs ?_;refine qAr 17 (by kernel_rfl) rfl (by rfl) (fun KK hK=>?_);go_simp;refine hK.out _ _ (G.out _ (qAb (qAb c l) l)) (fun hHeld=>?_);clear hK KK
  try simp only [Act.put,p1q,p2q,p3q,p4q,p5q,p6q]
  refine qBb [18] ?_
  repeat (refine tkO (v:=?_) rfl ?_ ?_;rotate_left;(intro wy hSw;(try dsimp only at hSw);go_simp;(first|done|with_reducible rfl));try simp only [Act.put,p1q,p2q,p3q,p4q,p5q,p6q])
  refine qAs ?_;refine wpAnyH_done (by kernel_rfl) ?_ _;obtain ⟨Y,g,M,E,u,a8,e0,e1⟩:∃ Y g,Hid (Y=(I.setCell ⟨Z.heap.size,0,none⟩ (U8 A)).setCell ⟨Z.heap.size,1,none⟩ (U8 B))/\Hid (Z.heap.size=g)/\Bw Z Y/\(g<Y.heap.size/\Z.heap.size<=g)/\Y.cell? ⟨g,0,none⟩=some (U8 A)/\Y.cell? ⟨g,1,none⟩=some (U8 B):=⟨_,_,rfl,rfl,qAb (qAb c l) l,⟨by simpa [World.setCell] using a3,l⟩,(qAp n0 n1).1,(qAp n0 n1).2⟩;rw [<- M.out,E.out];clear M E hHeld;have T:Hid (BxT Y (w.heap.size+1+1) 0 ⟨0,0,0,0⟩):=BxT.below a1.out u (by omega);have O:=u.size
  go_wp2_with (go_at_call 131;go_must (refine (qEt A B _).mono ?_);rintro e U ⟨rfl,y⟩;go_must (have F:Hid (BxT U (w.heap.size+1+1) 0 ⟨0,0,0,0⟩):=BxT.below T.out y (by omega);have N:=K.out.trans ((u.trans (y.mono O)).mono K.out.size);obtain ⟨c0,c1,c2,c3,f0,f1,f2,f3⟩:=BxT.open F.out;clear y))
  exact qEg rfl rfl (t:=⟨1,A,B,0⟩) F.out N (by omega)
-- DO END
theorem Hp.oneR {w:World}{b:Nat}{t:TypeId}{r:Bool}{s:St}(h:Hp w b t (stC r s)):w.rangeAt b 0 (stC r s):=h.one
theorem qMj (i:In)(h:i.wr.2=true)(f:i.right=true):(i.wr=(i.d,true)/\((0<=i.op/\i.op<=11)∨i.op=13∨i.op=14))∨(i.wr=(0,true)/\i.op=21):=by
 have g:=qDm (op:=i.op) f;unfold In.wr qDa at h ⊢
 have c:¬ qAq i.op i.d i.a i.b i.imm=false:=by simp [show qAq i.op i.d i.a i.b i.imm=true from f]
 rw [if_neg c] at h ⊢
 split
 ·rename_i hc;exact .inl ⟨rfl,by omega⟩
 ·rename_i hc
  have h:(i.op==21)=true:=by simpa [hc] using h
  by_cases h21:i.op=21
  ·exact .inr ⟨by simp [h21],h21⟩
  ·simp [h21] at h
theorem yPl (nm:Nat)(i:In)(r:Bool)(s:St)(w:World)(l:Made8 nm s)(k:i.right=true)(o:i.wr.2=true):Cl 142 #[stV r s,i.v] w fun e u=>e=.returned (tyV (qQu i s))/\Bw w u:=by
 have n:=qMj i o k
 have f:=fun h=>(qDq k h).2
 have g:=fun h=>qDc k h
 obtain ⟨op,d,a,b,c⟩:=i;simp only at n f g;unfold qQu;simp only
 by_cases h0:op=0
 ·subst h0;rw [if_pos rfl];exact yPg nm d a b c r s w l (f (.inl (by omega)))
 rw [if_neg h0]
 by_cases h1:op=11∨op=13
 ·rw [if_pos h1]
  rcases h1 with rfl|rfl
  ·exact yCo d a b c r s w
  ·exact yCz d a b c r s w
 rw [if_neg h1]
 by_cases h2:op=14
 ·subst h2;rw [if_pos rfl];exact yNo d a b c r s w
 rw [if_neg h2]
 by_cases h3:op=21
 ·subst h3;rw [if_pos rfl];exact yHk d a b c r s w
 rw [if_neg h3];exact yVg nm op d a b c r s w l (by omega) (g (.inl (by omega))) (f (.inl (by omega)))
theorem yUo {nm:Nat}{i:In}{k lo hi m:Int}(r:Bool){s:St}(w:World)(h:Hid (qQu i s=⟨k,lo,hi,m⟩))(c:Made8 nm s)(d:i.right=true)(b:i.wr.2=true):Cl 142 #[stV r s,i.v] w fun e a=>e=.returned (.agg #[I4 k,U8 lo,U8 hi,I4 m])/\Bw w a:=by
 have:=yPl nm i r s w c d b;rw [h.out] at this;exact this
theorem qNa {op d a b c n:Int}{f:Bool}(h:Hid (qDa op d a b c=(n,f)))(w:World):Cl 108 #[qAl op d a b c] w fun e g=>e=.returned (.tuple #[I4 n,.bool f])/\Bw w g:=by
 have:=yFa op d a b c w;rw [h.out] at this;exact this
theorem qMo {c:Func}{p:Tmp}{w b:World}{n B:Nat}{a:Array Value}{r:Bool}{s:St}(f:c.results=#[.cell p 156])(g:a.getD p undef=.pointer (some ⟨n,0,none⟩))(k:StAt b n 0 r s)(d:s.length=8)(l:Below B w b) :
  bodyPost Tryz.prog c (fun e i=>e=.returned (stV r s)/\Below B w i) .ret ⟨a,[]⟩ b:=by
 refine bodyPost_ret (v:=stV r s) ?_ rfl ⟨rfl,l⟩;rw [qAw f,g];simp only [asAddr,Sem.run_pure,Result.andThen];exact run_loadVar_mid b n 0 _ _ _ k Tryz.underlying156 rfl (qHf d)
def zeroC:List Value:=[.bool false,.int .i64 0,.int .u64 0,.int .u64 0,.int .i64 0,.int .i64 0,.int .u64 0,.int .u64 0,.int .i64 0,.int .i64 0,.int .u64 0,.int .u64 0,.int .i64 0,.int .i64 0,.int .u64 0,.int .u64 0,.int .i64 0,.int .i64 0,.int .u64 0,.int .u64 0,.int .i64 0,.int .i64 0,.int .u64 0,.int .u64 0,.int .i64 0,.int .i64 0,.int .u64 0,.int .u64 0,.int .i64 0,.int .i64 0,.int .u64 0,.int .u64 0,.int .i64 0]
theorem qCa:zeroC.length=33:=rfl
theorem qSz (w:World)(r:Bool)(s:St)(op d a b c:Int):∃ Z,Hid (Z=((w.alloc (Obj.cells (stC r s).toArray 156)).alloc (qBr op d a b c)).alloc (Obj.cells #[.bool false,I4 0,U8 0,U8 0,I4 0,I4 0,U8 0,U8 0,I4 0,I4 0,U8 0,U8 0,I4 0,I4 0,U8 0,U8 0,I4 0,I4 0,U8 0,U8 0,I4 0,I4 0,U8 0,U8 0,I4 0,I4 0,U8 0,U8 0,I4 0,I4 0,U8 0,U8 0,I4 0] 156))/\Hid (Hp Z w.heap.size 156 (stC r s))/\Hid (Box Z (w.heap.size+1) op d a b c)/\Hid (Hp Z (w.heap.size+1+1) 156 zeroC)/\Hid (Bw w Z)/\(Z.heap.size<=w.heap.size+3/\w.heap.size+3<=Z.heap.size) :=
 ⟨_,rfl,((Hp.new w (stC r s) _).alloc _).alloc _,⟨by go_cell,by go_cell,by go_cell,by go_cell,by go_cell⟩,qAa (by have:=Hp.new ((w.alloc (Obj.cells (stC r s).toArray 156)).alloc (qBr op d a b c)) zeroC 156;simpa [zeroC] using this),qAa (by go_grown),by simp⟩
def wrS (i:In) (s:St):St:=if i.wr.2=true then s.set i.wr.1.toNat (qQu i s) else s
theorem yFb (op d a b g:Int)(n:Int)(r:Bool)(s:St)(w:World)(c:s.length=8)(G:Hid (qDa op d a b g=(n,false))):Cl 119 #[stV r s,In.v ⟨op,d,a,b,g⟩] w fun e I=>e=.returned (stV r s)/\Bw w I:=by
 obtain ⟨Z,J,E,B,z,i,K⟩:=qSz w r s op d a b g;obtain ⟨P,L,O,N,M⟩:=B.out;have u:=qAa (qHf (r:=r) c);have A:=qAa (qLi (r:=r) c);have y:=qAa (qIw r s);go_enter Tryz.func119,Tryz.ntmps119
 go_wp2_with (first
  | (go_at_call 108;rw [<- J.out];go_must (refine (qNa G _).mono ?_);rintro e F ⟨rfl,f⟩;go_must (have k:=i.out.trans (f.mono i.out.size);have D:=qAa (E.out.below f (by omega)).oneR;have l:=qAa (z.out.below f (by omega));have o:=qAa (show F.there (w.heap.size+1+1) 0 (stC r s).toArray.size from (by rw [qGn r c];exact l.out.there (by rw [qCa];omega)))))
  | ((with_reducible refine wpList_load_mid ?qa 156 (.tmp 2) ?qb w.heap.size 0 ?qc (stC r s) _ D.out Tryz.underlying156 ?qd u.out ?qe);(case qa=>rfl);(case qb=>rfl);(case qc=>rfl);(case qd=>rfl))
  | ((with_reducible refine wpList_store_mid ?ra 156 (.tmp 4) (.tmp 19) ?rb (w.heap.size+1+1) 0 (stC r s).toArray ?rc ?rd o.out A.out y.out ?re);(case ra=>rfl);(case rb=>rfl);(case rc=>rfl);(case rd=>rfl)))
 refine qMo (n:=w.heap.size+1+1) rfl rfl ?_ c ?_
 ·exact (l.out.box qCa c).one
 ·exact k.trans (qAi (qAd _ _ _ _) (by omega) k.size)
theorem yFd (nm:Nat)(op d a b c:Int)(n:Nat)(k lo hi m:Int)(r:Bool)(s:St)(w:World)(u:Made8 nm s)(hn:n<8)(M:In.right ⟨op,d,a,b,c⟩=true)(N:Hid (qDa op d a b c=((n:Int),true)))(HT:Hid (qQu ⟨op,d,a,b,c⟩ s=⟨k,lo,hi,m⟩)):Cl 119 #[stV r s,In.v ⟨op,d,a,b,c⟩] w fun e w'=>e=.returned (stV r (s.set n ⟨k,lo,hi,m⟩))/\Bw w w':=by
 obtain ⟨Z,HZ,a0,E,R,y,a1⟩:=qSz w r s op d a b c;obtain ⟨y0,y1,y2,y3,y4⟩:=E.out
 have l:(s.set n ⟨k,lo,hi,m⟩).length=8:=by rw [List.length_set];exact u.1
 have O:=qAa (qHf (r:=r) u.1);have I:=qAa (qHf (r:=r) l);have S:=qAa (qLi (r:=r) l);have Q:=qAa (qIw r (s.set n ⟨k,lo,hi,m⟩));have HQ:=qAa (fun wx (h:Hp wx w.heap.size 156 (stC r s))=>(h.one.typ u.1 hn:AtT wx w.heap.size (0+1+n*4) (s.getD n Ty.nil)))
 have a4:(n:Int)<8:=by omega
 have z:In.wr ⟨op,d,a,b,c⟩=((n:Int),true):=N.out;have L:=qAa M;have K:=qAa (show (In.wr ⟨op,d,a,b,c⟩).2=true by rw [z]);have P:=qAa u;clear z M u;go_enter Tryz.func119,Tryz.ntmps119
 go_wp2_with (first
  | (go_at_call 108;rw [<- HZ.out];go_must (refine (qNa N _).mono ?_);rintro e w1 ⟨rfl,g⟩;go_must (have D:=y.out.trans (g.mono y.out.size);have a2:=g.size;have A:=qAa (a0.out.below g (by omega));have G:=qAa A.out.oneR;have X:=qAa (R.out.below g (by omega));obtain ⟨x0,x1,x2,x3,x4⟩:=Box.below E.out g (by omega);clear y0 y1 y2 y3 y4))
  | ((with_reducible refine wpList_load_mid ?qa 156 (.tmp 2) ?qb w.heap.size 0 ?qc (stC r s) _ G.out Tryz.underlying156 ?qd O.out ?qe);(case qa=>rfl);(case qb=>rfl);(case qc=>rfl);(case qd=>rfl))
  | (go_at_call 142;go_must (refine (yUo (i:=⟨op,d,a,b,c⟩) r w1 HT P.out L.out K.out).mono ?_);rintro e J ⟨rfl,o⟩;go_must (have B:=D.trans (o.mono D.size);have a3:=o.size;have f:=qAa (A.out.below o (by omega));have T:=qAa (X.out.below o (by omega));have U:=qAa (f.out.boxT P.out.1 hn ⟨k,lo,hi,m⟩);have V:=qAa U.out.oneR;have F:=qAa (T.out.grown (qAd w.heap.size (tyC ⟨k,lo,hi,m⟩) J (1+n*4)) (fun e=>by injection e with e;omega));have Y:=qAa (show (setT J w.heap.size (1+n*4) ⟨k,lo,hi,m⟩).there (w.heap.size+1+1) 0 (stC r (s.set n ⟨k,lo,hi,m⟩)).toArray.size from (by rw [qGn r l];exact F.out.there (by rw [qCa];omega)));obtain ⟨m0,m1,m2,m3⟩:=HQ.out J f.out;simp only [Nat.zero_add] at m0 m1 m2 m3;have f0:=f.out.frozen (1+n*4);have f1:=f.out.frozen (1+n*4+1);have f2:=f.out.frozen (1+n*4+2);have f3:=f.out.frozen (1+n*4+3);clear G))
  | ((with_reducible refine wpList_load_mid ?pa 156 (.tmp 2) ?pb w.heap.size 0 ?pc (stC r (s.set n ⟨k,lo,hi,m⟩)) _ V.out Tryz.underlying156 ?pd I.out ?pe);(case pa=>rfl);(case pb=>rfl);(case pc=>rfl);(case pd=>rfl))
  | ((with_reducible refine wpList_store_mid ?ra 156 (.tmp 4) (.tmp 19) ?rb (w.heap.size+1+1) 0 (stC r (s.set n ⟨k,lo,hi,m⟩)).toArray ?rc ?rd Y.out S.out Q.out ?re);(case ra=>rfl);(case rb=>rfl);(case rc=>rfl);(case rd=>rfl)))
 refine qMo (n:=w.heap.size+1+1) rfl rfl ?_ l ?_
 ·exact (F.out.box qCa l).one
 ·exact (qAz (t:=⟨k,lo,hi,m⟩) (off:=1+n*4) B (Nat.le_refl _)).trans (qAi (qAd _ _ _ _) (by omega) (qAz (t:=⟨k,lo,hi,m⟩) (off:=1+n*4) B (Nat.le_refl _)).size)
theorem yBj (nm:Nat)(i:In)(r:Bool)(s:St)(w:World)(g:Made8 nm s)(f:i.right=true):Cl 119 #[stV r s,i.v] w fun e u=>e=.returned (stV r (wrS i s))/\Bw w u:=by
 unfold wrS
 by_cases hw:i.wr.2=true
 ·rw [if_pos hw];have l:=qMj i hw f
  have y:∃ n:Nat,n<8/\i.wr=((n:Int),true):=by
   rcases l with ⟨h,o⟩|⟨h,o⟩
   ·have:=qCy f (by omega);exact ⟨i.d.toNat,by omega,by rw [h];congr;omega⟩
   ·exact ⟨0,by omega,by rw [h];rfl⟩
  obtain ⟨n,z,he⟩:=y;obtain ⟨op,d,a,b,c⟩:=i;rw [he];exact yFd nm op d a b c n _ _ _ _ r s w g z f he rfl
 ·rw [if_neg hw]
  have k:i.wr.2=false:=by simpa using hw
  obtain ⟨op,d,a,b,c⟩:=i;exact yFb op d a b c _ r s w g.1 (show qDa op d a b c=(_,false) by rw [<- k];rfl)
theorem qPp (lo hi:Int)(w:World):Cl 131 #[.agg #[U8 lo,U8 hi]] w fun e a=>e=.returned (.agg #[I4 1,U8 lo,U8 hi,I4 0])/\Bw w a:=qEt lo hi w
theorem yKt {w b:World}{c a:Nat}{x y z:Value}(h:w.cell? ⟨c,2,none⟩=some x/\w.cell? ⟨a,0,none⟩=some y/\w.cell? ⟨a,1,none⟩=some z)(d:Bw w b)(hi:c<w.heap.size)(f:a<w.heap.size):b.cell? ⟨c,2,none⟩=some x/\b.cell? ⟨a,0,none⟩=some y/\b.cell? ⟨a,1,none⟩=some z:=by
 rw [d.cell (p:=⟨c,2,none⟩) hi,d.cell (p:=⟨a,0,none⟩) f,d.cell (p:=⟨a,1,none⟩) f];exact h
theorem yAu {w:World}{d a sb o:Nat}{t:Ty}{x y z:Value}(h:w.cell? ⟨d,2,none⟩=some x/\w.cell? ⟨a,0,none⟩=some y/\w.cell? ⟨a,1,none⟩=some z)(hi:d≠sb)(f:a≠sb):(setT w sb o t).cell? ⟨d,2,none⟩=some x/\(setT w sb o t).cell? ⟨a,0,none⟩=some y/\(setT w sb o t).cell? ⟨a,1,none⟩=some z:=by
 have c:∀ b j u,b≠sb->w.cell? ⟨b,j,none⟩=some u->(setT w sb o t).cell? ⟨b,j,none⟩=some u:=fun b j u g i =>
  (qAd sb (tyC t) w o).cell i (fun e=>g (by injection e))
 exact ⟨c _ _ _ hi h.1,c _ _ _ f h.2.1,c _ _ _ f h.2.2⟩
theorem yTe (w:World):(Instr.build 156 #[]).run Tryz.prog w=.ok (.agg zeroC.toArray) w:=by kernel_rfl
theorem qOw {c:Array Oper}{b:List Oper}{op:Oper}{a:Act}{w:World}{Q:Exit->Act->World->Prop}(g:op.guard=none)(i:op.op=.build 156 #[])(d:List Value)(k:Hid (d=zeroC))(h:wpList Tryz.prog c Q b (a.put op.dst (.agg d.toArray)) w):wpList Tryz.prog c Q (op :: b) a w :=
 wpList_plain g fun K hK=>by
  have f:=hK _ _ h;rw [k.out] at f;unfold Oper.wp execOp;simp only [i];simp only [List.map_toArray,List.map_nil,Array.map_empty,Sem.run_bind,yTe,Result.andThen_ok,Sem.run_pure];exact f
theorem yEw (nm:Nat)(op d b B:Int)(n:Nat)(r:Bool)(s:St)(P:Bool)(w:World)(h8:Made8 nm s)(hn:n<8)(hb:b=8∨(0<=b/\b<=7))(O M:Int)(sk sl Q sm tk X R tm:Int)(HS:Hid (s.getD n Ty.nil=⟨sk,sl,Q,sm⟩))(HT:Hid (qBa ⟨op,d,n,b,B⟩ s=⟨tk,X,R,tm⟩))(HJ:Hid (qBh (qDb op sl Q X R P)=.tuple #[.agg #[U8 O,U8 M],.bool false])):Cl 118 #[stV r s,In.v ⟨op,d,n,b,B⟩,.bool P] w fun e c=>e=.returned (stV false stZ)/\Bw w c:=by
 have a5:Hid (wfS (sl,Q)):=by have:=h8.ends hn;rw [HS.out] at this;exact this
 have a4:Hid (wfS (X,R)):=by have:=(qJh (i:=⟨op,d,n,b,B⟩) h8 hb).ends;rw [HT.out] at this;exact this
 obtain ⟨Z,HZ,a6,ac,a1,I,ae⟩:=qSz w r s op d n b B;have H8:=qAa h8.1;have HB:=qAa hb
 have af:(n:Int)<8:=by omega
 obtain ⟨y,k⟩:∃ y,Hid (y=zeroC):=⟨_,rfl⟩;have a2:=qAa (show (Tryz.prog.info? 156).map (·.size)=some y.toArray.size from by rw [k.out];kernel_rfl);have a0:=qAa (show y.toArray.all (·.oneCell')=true from by rw [k.out];exact qIw false stZ);clear h8 hb;go_enter Tryz.func118,Tryz.ntmps118;go_wp2;rw [<- HZ.out];clear HZ;have hsz:=a6.out.lt
 have ad:∀ wy:World,(Instr.field 153 (.agg #[I4 tk,U8 X,U8 R,I4 tm]) 1).run Tryz.prog wy=.ok (.agg #[U8 X,U8 R]) wy:=fun _=>by kernel_rfl
 have E:Hid (∀ c,Bw Z c->c.cell? ⟨w.heap.size+1,0,none⟩=some (I4 op)/\c.cell? ⟨w.heap.size+1,1,none⟩=some (I4 d)/\c.cell? ⟨w.heap.size+1,2,none⟩=some (I4 n)/\c.cell? ⟨w.heap.size+1,3,none⟩=some (I4 b)/\c.cell? ⟨w.heap.size+1,4,none⟩=some (I4 B)/\c.cell? ⟨w.heap.size,1+n*4+1,none⟩=some (U8 sl)/\c.cell? ⟨w.heap.size,1+n*4+1+1,none⟩=some (U8 Q)/\StAt c w.heap.size 0 r s/\True):=fun c a8=>by
  obtain ⟨q0,q1,q2,q3⟩:=qPd (r:=r) H8.out hn HS.out;have hh:=a6.out.below a8 hsz;obtain ⟨x0,x1,x2,x3,x4⟩:=Box.below ac.out a8 (by omega);exact ⟨x0,x1,x2,x3,x4,hh.cell q1,hh.cell q2,hh.one,trivial⟩
 refine wp_region_held_drew (S:=fun c=>c.cell? ⟨w.heap.size+1,0,none⟩=some (I4 op)/\c.cell? ⟨w.heap.size+1,1,none⟩=some (I4 d)/\c.cell? ⟨w.heap.size+1,2,none⟩=some (I4 n)/\c.cell? ⟨w.heap.size+1,3,none⟩=some (I4 b)/\c.cell? ⟨w.heap.size+1,4,none⟩=some (I4 B)/\c.cell? ⟨w.heap.size,1+n*4+1,none⟩=some (U8 sl)/\c.cell? ⟨w.heap.size,1+n*4+1+1,none⟩=some (U8 Q)/\StAt c w.heap.size 0 r s/\True) (by kernel_rfl) (E.out _ (Below.refl _ _).drew) (fun hHeld=>?_)
-- NO BEGIN
 refine qBb [0,1,2,3,4,5,6,7] ?_
 repeat (refine tkO (v:=?_) rfl ?_ ?_;rotate_left;(intro wy hSw;(try dsimp only at hSw);go_simp;(first|done|with_reducible rfl));try simp only [Act.put,p1q,p2q,p3q,p4q,p5q,p6q])
 refine qAs ?_;refine wpAnyH_take (i:=8) rfl (by kernel_rfl) (by kernel_rfl) (by kernel_rfl) (fun _ _ _ h=>h) (yieldsIf_load_mid (by rfl) _ _ rfl _ _ rfl (stC r s) _ (fun w h=>h.2.2.2.2.2.2.2.1) Tryz.underlying156 rfl (qHf H8.out)) (by assumption) ?_
 try simp only [Act.put,p1q,p2q,p3q,p4q,p5q,p6q]
 refine qBb [9,12] ?_
 repeat (refine tkO (v:=?_) rfl ?_ ?_;rotate_left;(intro wy hSw;(try dsimp only at hSw);go_simp;(first|done|with_reducible rfl));try simp only [Act.put,p1q,p2q,p3q,p4q,p5q,p6q])
 refine qAs ?_;refine qOc 10 17 (by kernel_rfl) rfl rfl (by rfl) (by rfl) (fun KK hK=>?_) (fun KK hK=>?_)
 ·go_simp
  go_at_call 110
  refine (qEs (i:=⟨op,d,n,b,B⟩) HT r Z.drew H8.out HB.out).mono ?_;rintro e G ⟨rfl,N⟩;have u:Bw Z G:=qAg N;have J:=u.size;refine hK.out _ _ (E.out _ u) (fun hHeld=>?_);clear hK KK
  try simp only [Act.put,p1q,p2q,p3q,p4q,p5q,p6q]
  refine qBb [11] ?_
  repeat (refine tkO (v:=?_) rfl ?_ ?_;rotate_left;(intro wy hSw;(try dsimp only at hSw);go_simp;(first|done|with_reducible rfl));try simp only [Act.put,p1q,p2q,p3q,p4q,p5q,p6q])
  refine qAs ?_;refine qOc 13 17 (by kernel_rfl) rfl rfl (by rfl) (by rfl) (fun KK hK=>?_) (fun KK hK=>?_)
  ·go_simp
   go_at_call 141
   refine (qJy a5 a4 HJ G).mono ?_;rintro e F ⟨rfl,l⟩;have a:Bw Z F:=u.trans (l.mono J);refine hK.out _ _ (E.out _ a) (fun hHeld=>?_);clear hK KK
   try simp only [Act.put,p1q,p2q,p3q,p4q,p5q,p6q]
   refine qBb [14,15,16] ?_
   repeat (refine tkO (v:=?_) rfl ?_ ?_;rotate_left;(intro wy hSw;(try dsimp only at hSw);go_simp;(first|done|with_reducible rfl));try simp only [Act.put,p1q,p2q,p3q,p4q,p5q,p6q])
   refine qAs ?_;refine qAr 17 (by kernel_rfl) rfl (by rfl) (fun KK hK=>?_);go_simp;refine hK.out _ _ (E.out _ (a.alloc a.size _)) (fun hHeld=>?_);clear hK KK
   try simp only [Act.put,p1q,p2q,p3q,p4q,p5q,p6q]
   refine qAr 18 (by kernel_rfl) rfl (by rfl) (fun KK hK=>?_);go_simp;refine hK.out _ _ (E.out _ (a.alloc a.size _)) (fun hHeld=>?_);clear hK KK
   try simp only [Act.put,p1q,p2q,p3q,p4q,p5q,p6q]
   refine qBb [19] ?_
   repeat (refine tkO (v:=?_) rfl ?_ ?_;rotate_left;(intro wy hSw;(try dsimp only at hSw);go_simp;(first|done|with_reducible rfl));try simp only [Act.put,p1q,p2q,p3q,p4q,p5q,p6q])
   refine qAs ?_;refine wpAnyH_done (by kernel_rfl) ?_ _;obtain ⟨Y,f,K,A,o,a9,e0,e1⟩:∃ Y f,Hid (Y=F.alloc (Obj.cells #[U8 O,U8 M] 151))/\Hid (F.heap.size=f)/\Bw Z Y/\(f<Y.heap.size/\Z.heap.size<=f)/\Y.cell? ⟨f,0,none⟩=some (U8 O)/\Y.cell? ⟨f,1,none⟩=some (U8 M):=⟨_,_,rfl,rfl,a.alloc a.size _,⟨by simp,a.size⟩,by go_cell,by go_cell⟩;rw [<- K.out,A.out];clear K A hHeld;have a7:=o.size;have D:=I.out.trans (o.mono I.out.size);have z:=qAa (a1.out.below o (by omega));have L:=qAa (show Y.there (w.heap.size+1+1) 0 y.toArray.size from (by rw [k.out];exact z.out.there (by rw [qCa];decide)))
   go_wp2_with (first|((with_reducible refine qOw ?za4 ?zb4 y k ?zd4);(case za4=>rfl);(case zb4=>rfl))|((with_reducible refine wpList_store_mid ?ra4 156 (.tmp 6) (.tmp 28) ?rb4 (w.heap.size+1+1) 0 y.toArray ?rc4 ?rd4 L.out a2.out a0.out ?re4);(case ra4=>rfl);(case rb4=>rfl);(case rc4=>rfl);(case rd4=>rfl)))
   refine qMo (n:=w.heap.size+1+1) rfl rfl ?_ qNj ?_
   ·rw [k.out];exact (z.out.box (r:=false) (s:=stZ) qCa qNj).one
   ·exact D.trans (qAi (qAd _ _ _ _) (by omega) D.size)
  ·go_simp;refine hK.out _ _ (E.out _ (u.alloc J _)) (fun hHeld=>?_);clear hK KK
   try simp only [Act.put,p1q,p2q,p3q,p4q,p5q,p6q]
   refine qAr 13 (by kernel_rfl) rfl (by rfl) (fun KK hK=>?_);go_simp
   go_at_call 141
   refine (qJy a5 a4 HJ _).mono ?_;rintro e F ⟨rfl,l⟩;obtain ⟨ab,n0,V,g0,g1⟩:=qLw l;have a:Bw Z F:=(u.alloc J _).trans (l.mono (by simp;omega));have g:Z.heap.size<=G.heap.size:=J;have T:G.heap.size<F.heap.size:=ab;refine hK.out _ _ (E.out _ a) (fun hHeld=>?_);clear hK KK
   try simp only [Act.put,p1q,p2q,p3q,p4q,p5q,p6q]
   refine qBb [14,15,16] ?_
   repeat (refine tkO (v:=?_) rfl ?_ ?_;rotate_left;(intro wy hSw;(try dsimp only at hSw);go_simp;(first|done|with_reducible rfl));try simp only [Act.put,p1q,p2q,p3q,p4q,p5q,p6q])
   refine qAs ?_;refine qAr 18 (by kernel_rfl) rfl (by rfl) (fun KK hK=>?_);go_simp;refine hK.out _ _ (E.out _ (qAb (qAb a g) g)) (fun hHeld=>?_);clear hK KK
   try simp only [Act.put,p1q,p2q,p3q,p4q,p5q,p6q]
   refine qBb [19] ?_
   repeat (refine tkO (v:=?_) rfl ?_ ?_;rotate_left;(intro wy hSw;(try dsimp only at hSw);go_simp;(first|done|with_reducible rfl));try simp only [Act.put,p1q,p2q,p3q,p4q,p5q,p6q])
   refine qAs ?_;refine wpAnyH_done (by kernel_rfl) ?_ _;obtain ⟨Y,f,K,A,o,a9,e0,e1⟩:∃ Y f,Hid (Y=(F.setCell ⟨G.heap.size,0,none⟩ (U8 O)).setCell ⟨G.heap.size,1,none⟩ (U8 M))/\Hid (G.heap.size=f)/\Bw Z Y/\(f<Y.heap.size/\Z.heap.size<=f)/\Y.cell? ⟨f,0,none⟩=some (U8 O)/\Y.cell? ⟨f,1,none⟩=some (U8 M):=⟨_,_,rfl,rfl,qAb (qAb a g) g,⟨by simpa [World.setCell] using T,g⟩,(qAp n0 V).1,(qAp n0 V).2⟩;rw [<- K.out,A.out];clear K A hHeld;have a7:=o.size;have D:=I.out.trans (o.mono I.out.size);have z:=qAa (a1.out.below o (by omega));have L:=qAa (show Y.there (w.heap.size+1+1) 0 y.toArray.size from (by rw [k.out];exact z.out.there (by rw [qCa];decide)))
   go_wp2_with (first|((with_reducible refine qOw ?za5 ?zb5 y k ?zd5);(case za5=>rfl);(case zb5=>rfl))|((with_reducible refine wpList_store_mid ?ra5 156 (.tmp 6) (.tmp 28) ?rb5 (w.heap.size+1+1) 0 y.toArray ?rc5 ?rd5 L.out a2.out a0.out ?re5);(case ra5=>rfl);(case rb5=>rfl);(case rc5=>rfl);(case rd5=>rfl)))
   refine qMo (n:=w.heap.size+1+1) rfl rfl ?_ qNj ?_
   ·rw [k.out];exact (z.out.box (r:=false) (s:=stZ) qCa qNj).one
   ·exact D.trans (qAi (qAd _ _ _ _) (by omega) D.size)
 ·go_simp;have aa:Bw Z (Z.alloc (Obj.cells #[U8 0,U8 0] 151)):=(Below.refl _ _).alloc (Nat.le_refl _) _;refine hK.out _ _ (E.out _ (aa.drew)) (fun hHeld=>?_);clear hK KK
  try simp only [Act.put,p1q,p2q,p3q,p4q,p5q,p6q]
  refine qAr 10 (by kernel_rfl) rfl (by rfl) (fun KK hK=>?_);go_simp
  go_at_call 110
  refine (qEs (i:=⟨op,d,n,b,B⟩) HT r _ H8.out HB.out).mono ?_;rintro e G ⟨rfl,N⟩;have U:=qAg N;obtain ⟨a3,m0,m1,k0,k1⟩:=qLw U;have u:Bw Z G:=aa.trans (U.mono (by simp));have J:=u.size;refine hK.out _ _ (E.out _ u) (fun hHeld=>?_);clear hK KK
  try simp only [Act.put,p1q,p2q,p3q,p4q,p5q,p6q]
  refine qBb [11] ?_
  repeat (refine tkO (v:=?_) rfl ?_ ?_;rotate_left;(intro wy hSw;(try dsimp only at hSw);go_simp;(first|done|with_reducible rfl));try simp only [Act.put,p1q,p2q,p3q,p4q,p5q,p6q])
  refine qAs ?_;refine qAr 13 (by kernel_rfl) rfl (by rfl) (fun KK hK=>?_);go_simp
  go_at_call 141
  refine (qJy a5 a4 HJ G).mono ?_;rintro e F ⟨rfl,l⟩;have a:Bw Z F:=u.trans (l.mono J);obtain ⟨n0,V,g0,g1⟩:=qOp ⟨m0,m1,k0,k1⟩ l a3;have g:Z.heap.size<=Z.heap.size:=Nat.le_refl _;have T:Z.heap.size<F.heap.size:=Nat.lt_of_lt_of_le a3 l.size;refine hK.out _ _ (E.out _ a) (fun hHeld=>?_);clear hK KK
  try simp only [Act.put,p1q,p2q,p3q,p4q,p5q,p6q]
  refine qBb [14,15,16] ?_
  repeat (refine tkO (v:=?_) rfl ?_ ?_;rotate_left;(intro wy hSw;(try dsimp only at hSw);go_simp;(first|done|with_reducible rfl));try simp only [Act.put,p1q,p2q,p3q,p4q,p5q,p6q])
  refine qAs ?_;refine qAr 18 (by kernel_rfl) rfl (by rfl) (fun KK hK=>?_);go_simp;refine hK.out _ _ (E.out _ (qAb (qAb a g) g)) (fun hHeld=>?_);clear hK KK
  try simp only [Act.put,p1q,p2q,p3q,p4q,p5q,p6q]
  refine qBb [19] ?_
  repeat (refine tkO (v:=?_) rfl ?_ ?_;rotate_left;(intro wy hSw;(try dsimp only at hSw);go_simp;(first|done|with_reducible rfl));try simp only [Act.put,p1q,p2q,p3q,p4q,p5q,p6q])
  refine qAs ?_;refine wpAnyH_done (by kernel_rfl) ?_ _;obtain ⟨Y,f,K,A,o,a9,e0,e1⟩:∃ Y f,Hid (Y=(F.setCell ⟨Z.heap.size,0,none⟩ (U8 O)).setCell ⟨Z.heap.size,1,none⟩ (U8 M))/\Hid (Z.heap.size=f)/\Bw Z Y/\(f<Y.heap.size/\Z.heap.size<=f)/\Y.cell? ⟨f,0,none⟩=some (U8 O)/\Y.cell? ⟨f,1,none⟩=some (U8 M):=⟨_,_,rfl,rfl,qAb (qAb a g) g,⟨by simpa [World.setCell] using T,g⟩,(qAp n0 V).1,(qAp n0 V).2⟩;rw [<- K.out,A.out];clear K A hHeld;have a7:=o.size;have D:=I.out.trans (o.mono I.out.size);have z:=qAa (a1.out.below o (by omega));have L:=qAa (show Y.there (w.heap.size+1+1) 0 y.toArray.size from (by rw [k.out];exact z.out.there (by rw [qCa];decide)))
  go_wp2_with (first|((with_reducible refine qOw ?za6 ?zb6 y k ?zd6);(case za6=>rfl);(case zb6=>rfl))|((with_reducible refine wpList_store_mid ?ra6 156 (.tmp 6) (.tmp 28) ?rb6 (w.heap.size+1+1) 0 y.toArray ?rc6 ?rd6 L.out a2.out a0.out ?re6);(case ra6=>rfl);(case rb6=>rfl);(case rc6=>rfl);(case rd6=>rfl)))
  refine qMo (n:=w.heap.size+1+1) rfl rfl ?_ qNj ?_
  ·rw [k.out];exact (z.out.box (r:=false) (s:=stZ) qCa qNj).one
  ·exact D.trans (qAi (qAd _ _ _ _) (by omega) D.size)
-- NO END
theorem yDs (nm:Nat)(op d b J:Int)(n:Nat)(r:Bool)(s:St)(ac:Bool)(w:World)(h8:Made8 nm s)(hn:n<8)(hb:b=8∨(0<=b/\b<=7))(a c:Int)(sk sl sh sm tk tl th tm:Int)(HS:Hid (s.getD n Ty.nil=⟨sk,sl,sh,sm⟩))(HT:Hid (qBa ⟨op,d,n,b,J⟩ s=⟨tk,tl,th,tm⟩))(HJ:Hid (qBh (qDb op sl sh tl th ac)=.tuple #[.agg #[U8 a,U8 c],.bool true])):Cl 118 #[stV r s,In.v ⟨op,d,n,b,J⟩,.bool ac] w fun e f=>e=.returned (stV r (s.set n ⟨1,a,c,0⟩))/\Bw w f:=by
 have af:Hid (wfS (sl,sh)):=by have:=h8.ends hn;rw [HS.out] at this;exact this
 have ai:Hid (wfS (tl,th)):=by have:=(qJh (i:=⟨op,d,n,b,J⟩) h8 hb).ends;rw [HT.out] at this;exact this
 obtain ⟨Z,HZ,a2,ad,ah,V,ar⟩:=qSz w r s op d n b J;have T:=qAa h8.1;have HB:=qAa hb
 have au:(n:Int)<8:=by omega
 have B:(s.set n ⟨1,a,c,0⟩).length=8:=by rw [List.length_set];exact h8.1
 have aa:=qAa (qHf (r:=r) B);have a9:=qAa (qLi (r:=r) B);have aj:=qAa (qIw r (s.set n ⟨1,a,c,0⟩));clear h8 hb;go_enter Tryz.func118,Tryz.ntmps118;go_wp2;rw [<- HZ.out];clear HZ;have hsz:=a2.out.lt
 have aq:∀ wy:World,(Instr.field 153 (.agg #[I4 tk,U8 tl,U8 th,I4 tm]) 1).run Tryz.prog wy=.ok (.agg #[U8 tl,U8 th]) wy:=fun _=>by kernel_rfl
 have M:Hid (∀ f,Bw Z f->f.cell? ⟨w.heap.size+1,0,none⟩=some (I4 op)/\f.cell? ⟨w.heap.size+1,1,none⟩=some (I4 d)/\f.cell? ⟨w.heap.size+1,2,none⟩=some (I4 n)/\f.cell? ⟨w.heap.size+1,3,none⟩=some (I4 b)/\f.cell? ⟨w.heap.size+1,4,none⟩=some (I4 J)/\f.cell? ⟨w.heap.size,1+n*4+1,none⟩=some (U8 sl)/\f.cell? ⟨w.heap.size,1+n*4+1+1,none⟩=some (U8 sh)/\StAt f w.heap.size 0 r s/\True):=fun f ao=>by
  obtain ⟨q0,q1,q2,q3⟩:=qPd (r:=r) T.out hn HS.out;have hh:=a2.out.below ao hsz;obtain ⟨x0,x1,R,x3,x4⟩:=Box.below ad.out ao (by omega);exact ⟨x0,x1,R,x3,x4,hh.cell q1,hh.cell q2,hh.one,trivial⟩
 refine wp_region_held_drew (S:=fun f=>f.cell? ⟨w.heap.size+1,0,none⟩=some (I4 op)/\f.cell? ⟨w.heap.size+1,1,none⟩=some (I4 d)/\f.cell? ⟨w.heap.size+1,2,none⟩=some (I4 n)/\f.cell? ⟨w.heap.size+1,3,none⟩=some (I4 b)/\f.cell? ⟨w.heap.size+1,4,none⟩=some (I4 J)/\f.cell? ⟨w.heap.size,1+n*4+1,none⟩=some (U8 sl)/\f.cell? ⟨w.heap.size,1+n*4+1+1,none⟩=some (U8 sh)/\StAt f w.heap.size 0 r s/\True) (by kernel_rfl) (M.out _ (Below.refl _ _).drew) (fun hHeld=>?_)
-- YES BEGIN
 refine qBb [0,1,2,3,4,5,6,7] ?_
 repeat (refine tkO (v:=?_) rfl ?_ ?_;rotate_left;(intro wy hSw;(try dsimp only at hSw);go_simp;(first|done|with_reducible rfl));try simp only [Act.put,p1q,p2q,p3q,p4q,p5q,p6q])
 refine qAs ?_;refine wpAnyH_take (i:=8) rfl (by kernel_rfl) (by kernel_rfl) (by kernel_rfl) (fun _ _ _ h=>h) (yieldsIf_load_mid (by rfl) _ _ rfl _ _ rfl (stC r s) _ (fun w h=>h.2.2.2.2.2.2.2.1) Tryz.underlying156 rfl (qHf T.out)) (by assumption) ?_
 try simp only [Act.put,p1q,p2q,p3q,p4q,p5q,p6q]
 refine qBb [9,12] ?_
 repeat (refine tkO (v:=?_) rfl ?_ ?_;rotate_left;(intro wy hSw;(try dsimp only at hSw);go_simp;(first|done|with_reducible rfl));try simp only [Act.put,p1q,p2q,p3q,p4q,p5q,p6q])
 refine qAs ?_;refine qOc 10 17 (by kernel_rfl) rfl rfl (by rfl) (by rfl) (fun KK hK=>?_) (fun KK hK=>?_)
 ·go_simp
  go_at_call 110
  refine (qEs (i:=⟨op,d,n,b,J⟩) HT r Z.drew T.out HB.out).mono ?_;rintro e U ⟨rfl,ab⟩;have D:Bw Z U:=qAg ab;have X:=D.size;refine hK.out _ _ (M.out _ D) (fun hHeld=>?_);clear hK KK
  try simp only [Act.put,p1q,p2q,p3q,p4q,p5q,p6q]
  refine qBb [11] ?_
  repeat (refine tkO (v:=?_) rfl ?_ ?_;rotate_left;(intro wy hSw;(try dsimp only at hSw);go_simp;(first|done|with_reducible rfl));try simp only [Act.put,p1q,p2q,p3q,p4q,p5q,p6q])
  refine qAs ?_;refine qOc 13 17 (by kernel_rfl) rfl rfl (by rfl) (by rfl) (fun KK hK=>?_) (fun KK hK=>?_)
  ·go_simp
   go_at_call 141
   refine (qJy af ai HJ U).mono ?_;rintro e N ⟨rfl,A⟩;have y:Bw Z N:=D.trans (A.mono X);refine hK.out _ _ (M.out _ y) (fun hHeld=>?_);clear hK KK
   try simp only [Act.put,p1q,p2q,p3q,p4q,p5q,p6q]
   refine qBb [14,15,16] ?_
   repeat (refine tkO (v:=?_) rfl ?_ ?_;rotate_left;(intro wy hSw;(try dsimp only at hSw);go_simp;(first|done|with_reducible rfl));try simp only [Act.put,p1q,p2q,p3q,p4q,p5q,p6q])
   refine qAs ?_;refine qAr 17 (by kernel_rfl) rfl (by rfl) (fun KK hK=>?_);go_simp;refine hK.out _ _ (M.out _ (y.alloc y.size _)) (fun hHeld=>?_);clear hK KK
   try simp only [Act.put,p1q,p2q,p3q,p4q,p5q,p6q]
   refine qAr 18 (by kernel_rfl) rfl (by rfl) (fun KK hK=>?_);go_simp;refine hK.out _ _ (M.out _ (y.alloc y.size _)) (fun hHeld=>?_);clear hK KK
   try simp only [Act.put,p1q,p2q,p3q,p4q,p5q,p6q]
   refine qBb [19] ?_
   repeat (refine tkO (v:=?_) rfl ?_ ?_;rotate_left;(intro wy hSw;(try dsimp only at hSw);go_simp;(first|done|with_reducible rfl));try simp only [Act.put,p1q,p2q,p3q,p4q,p5q,p6q])
   refine qAs ?_;refine wpAnyH_done (by kernel_rfl) ?_ _;obtain ⟨Y,k,HY,I,l,a7,e0,e1⟩:∃ Y k,Hid (Y=N.alloc (Obj.cells #[U8 a,U8 c] 151))/\Hid (N.heap.size=k)/\Bw Z Y/\(k<Y.heap.size/\Z.heap.size<=k)/\Y.cell? ⟨k,0,none⟩=some (U8 a)/\Y.cell? ⟨k,1,none⟩=some (U8 c):=⟨_,_,rfl,rfl,y.alloc y.size _,⟨by simp,y.size⟩,by go_cell,by go_cell⟩;rw [<- HY.out,I.out];clear HY I hHeld;go_wp2;have an:=l.size;have F:=V.out.trans (l.mono V.out.size);have a6:=qAa (ah.out.below l (by omega));have a5:=qAa (a2.out.below l (by omega));obtain ⟨x0,x1,R,x3,x4⟩:=Box.below ad.out l (by omega);refine wp_region_held_drew (S:=fun f=>f.cell? ⟨w.heap.size+1,2,none⟩=some (I4 n)/\f.cell? ⟨k,0,none⟩=some (U8 a)/\f.cell? ⟨k,1,none⟩=some (U8 c)) (by kernel_rfl) ⟨R,e0,e1⟩ (fun hHeld=>?_);refine qBb [0,1,2,4] ?_
   repeat (refine tkO (v:=?_) rfl ?_ ?_;rotate_left;(intro wy hSw;(try dsimp only at hSw);go_simp;(first|done|with_reducible rfl));try simp only [Act.put,p1q,p2q,p3q,p4q,p5q,p6q])
   refine qAs ?_;refine qAr 3 (by kernel_rfl) rfl (by rfl) (fun KK hK=>?_);go_simp
   go_at_call 131
   refine (qPp a c Y.drew).mono ?_;rintro e E ⟨rfl,O⟩;have u:Bw Y E:=qAg O;have al:=u.size;have K:=yKt ⟨R,e0,e1⟩ u (by omega) a7.1;have g:=qAa (a5.out.below u (by omega));have a1:=qAa (a6.out.below u (by omega));have L:=F.trans (u.mono F.size);refine hK.out _ _ K (fun hHeld=>?_);clear hK KK
   try simp only [Act.put,p1q,p2q,p3q,p4q,p5q,p6q]
   obtain ⟨m0,Q,m2,m3⟩:=(g.out.one.typ T.out hn:AtT E w.heap.size (0+1+n*4) (s.getD n Ty.nil));simp only [Nat.zero_add] at m0 Q m2 m3;have f0:=g.out.frozen (1+n*4);have f1:=g.out.frozen (1+n*4+1);have f2:=g.out.frozen (1+n*4+2);have f3:=g.out.frozen (1+n*4+3)
   have P:k≠w.heap.size:=by omega
   have a0:=qAa (yAu (sb:=w.heap.size) (o:=1+n*4) (t:=⟨1,a,c,0⟩) K (by omega) P);have a4:=qAa (g.out.boxT T.out hn ⟨1,a,c,0⟩);have a8:=qAa a4.out.oneR;have G:=qAa (a1.out.grown (qAd w.heap.size (tyC ⟨1,a,c,0⟩) E (1+n*4)) (fun e=>by injection e with e;omega));have a3:=qAa (show (setT E w.heap.size (1+n*4) ⟨1,a,c,0⟩).there (w.heap.size+1+1) 0 (stC r (s.set n ⟨1,a,c,0⟩)).toArray.size from (by rw [qGn r B];exact G.out.there (by rw [qCa];omega)));refine qBb [5] ?_
   repeat (refine tkO (v:=?_) rfl ?_ ?_;rotate_left;(intro wy hSw;(try dsimp only at hSw);go_simp;(first|done|with_reducible rfl));try simp only [Act.put,p1q,p2q,p3q,p4q,p5q,p6q])
   refine qAs ?_;refine qAr 6 (by kernel_rfl) rfl (by rfl) (fun KK hK=>?_);go_simp;refine hK.out _ _ a0.out (fun hHeld=>?_);clear hK KK
   try simp only [Act.put,p1q,p2q,p3q,p4q,p5q,p6q]
   refine wpAnyH_done (by kernel_rfl) ?_ _;clear m0 Q m2 m3 f0 f1 f2 f3 hHeld
   go_wp2_with (first
    | ((with_reducible refine wpList_load_mid ?pa7 156 (.tmp 3) ?pb7 w.heap.size 0 ?pc7 (stC r (s.set n ⟨1,a,c,0⟩)) _ a8.out Tryz.underlying156 ?pd7 aa.out ?pe7);(case pa7=>rfl);(case pb7=>rfl);(case pc7=>rfl);(case pd7=>rfl))
    | ((with_reducible refine wpList_store_mid ?ra7 156 (.tmp 6) (.tmp 35) ?rb7 (w.heap.size+1+1) 0 (stC r (s.set n ⟨1,a,c,0⟩)).toArray ?rc7 ?rd7 a3.out a9.out aj.out ?re7);(case ra7=>rfl);(case rb7=>rfl);(case rc7=>rfl);(case rd7=>rfl)))
   refine qMo (n:=w.heap.size+1+1) rfl rfl ?_ B ?_
   ·exact (G.out.box qCa B).one
   ·exact (qAz (t:=⟨1,a,c,0⟩) (off:=1+n*4) L (Nat.le_refl _)).trans (qAi (qAd _ _ _ _) (by omega) (qAz (t:=⟨1,a,c,0⟩) (off:=1+n*4) L (Nat.le_refl _)).size)
  ·go_simp;refine hK.out _ _ (M.out _ (D.alloc X _)) (fun hHeld=>?_);clear hK KK
   try simp only [Act.put,p1q,p2q,p3q,p4q,p5q,p6q]
   refine qAr 13 (by kernel_rfl) rfl (by rfl) (fun KK hK=>?_);go_simp
   go_at_call 141
   refine (qJy af ai HJ _).mono ?_;rintro e N ⟨rfl,A⟩;obtain ⟨ap,n0,n1,g0,g1⟩:=qLw A;have y:Bw Z N:=(D.alloc X _).trans (A.mono (by simp;omega));have z:Z.heap.size<=U.heap.size:=X;have ak:U.heap.size<N.heap.size:=ap;refine hK.out _ _ (M.out _ y) (fun hHeld=>?_);clear hK KK
   try simp only [Act.put,p1q,p2q,p3q,p4q,p5q,p6q]
   refine qBb [14,15,16] ?_
   repeat (refine tkO (v:=?_) rfl ?_ ?_;rotate_left;(intro wy hSw;(try dsimp only at hSw);go_simp;(first|done|with_reducible rfl));try simp only [Act.put,p1q,p2q,p3q,p4q,p5q,p6q])
   refine qAs ?_;refine qAr 18 (by kernel_rfl) rfl (by rfl) (fun KK hK=>?_);go_simp;refine hK.out _ _ (M.out _ (qAb (qAb y z) z)) (fun hHeld=>?_);clear hK KK
   try simp only [Act.put,p1q,p2q,p3q,p4q,p5q,p6q]
   refine qBb [19] ?_
   repeat (refine tkO (v:=?_) rfl ?_ ?_;rotate_left;(intro wy hSw;(try dsimp only at hSw);go_simp;(first|done|with_reducible rfl));try simp only [Act.put,p1q,p2q,p3q,p4q,p5q,p6q])
   refine qAs ?_;refine wpAnyH_done (by kernel_rfl) ?_ _;obtain ⟨Y,k,HY,I,l,a7,e0,e1⟩:∃ Y k,Hid (Y=(N.setCell ⟨U.heap.size,0,none⟩ (U8 a)).setCell ⟨U.heap.size,1,none⟩ (U8 c))/\Hid (U.heap.size=k)/\Bw Z Y/\(k<Y.heap.size/\Z.heap.size<=k)/\Y.cell? ⟨k,0,none⟩=some (U8 a)/\Y.cell? ⟨k,1,none⟩=some (U8 c):=⟨_,_,rfl,rfl,qAb (qAb y z) z,⟨by simpa [World.setCell] using ak,z⟩,(qAp n0 n1).1,(qAp n0 n1).2⟩;rw [<- HY.out,I.out];clear HY I hHeld;go_wp2;have an:=l.size;have F:=V.out.trans (l.mono V.out.size);have a6:=qAa (ah.out.below l (by omega));have a5:=qAa (a2.out.below l (by omega));obtain ⟨x0,x1,R,x3,x4⟩:=Box.below ad.out l (by omega);refine wp_region_held_drew (S:=fun f=>f.cell? ⟨w.heap.size+1,2,none⟩=some (I4 n)/\f.cell? ⟨k,0,none⟩=some (U8 a)/\f.cell? ⟨k,1,none⟩=some (U8 c)) (by kernel_rfl) ⟨R,e0,e1⟩ (fun hHeld=>?_);refine qBb [0,1,2,4] ?_
   repeat (refine tkO (v:=?_) rfl ?_ ?_;rotate_left;(intro wy hSw;(try dsimp only at hSw);go_simp;(first|done|with_reducible rfl));try simp only [Act.put,p1q,p2q,p3q,p4q,p5q,p6q])
   refine qAs ?_;refine qAr 3 (by kernel_rfl) rfl (by rfl) (fun KK hK=>?_);go_simp
   go_at_call 131
   refine (qPp a c Y.drew).mono ?_;rintro e E ⟨rfl,O⟩;have u:Bw Y E:=qAg O;have al:=u.size;have K:=yKt ⟨R,e0,e1⟩ u (by omega) a7.1;have g:=qAa (a5.out.below u (by omega));have a1:=qAa (a6.out.below u (by omega));have L:=F.trans (u.mono F.size);refine hK.out _ _ K (fun hHeld=>?_);clear hK KK
   try simp only [Act.put,p1q,p2q,p3q,p4q,p5q,p6q]
   obtain ⟨m0,Q,m2,m3⟩:=(g.out.one.typ T.out hn:AtT E w.heap.size (0+1+n*4) (s.getD n Ty.nil));simp only [Nat.zero_add] at m0 Q m2 m3;have f0:=g.out.frozen (1+n*4);have f1:=g.out.frozen (1+n*4+1);have f2:=g.out.frozen (1+n*4+2);have f3:=g.out.frozen (1+n*4+3)
   have P:k≠w.heap.size:=by omega
   have a0:=qAa (yAu (sb:=w.heap.size) (o:=1+n*4) (t:=⟨1,a,c,0⟩) K (by omega) P);have a4:=qAa (g.out.boxT T.out hn ⟨1,a,c,0⟩);have a8:=qAa a4.out.oneR;have G:=qAa (a1.out.grown (qAd w.heap.size (tyC ⟨1,a,c,0⟩) E (1+n*4)) (fun e=>by injection e with e;omega));have a3:=qAa (show (setT E w.heap.size (1+n*4) ⟨1,a,c,0⟩).there (w.heap.size+1+1) 0 (stC r (s.set n ⟨1,a,c,0⟩)).toArray.size from (by rw [qGn r B];exact G.out.there (by rw [qCa];omega)));refine qBb [5] ?_
   repeat (refine tkO (v:=?_) rfl ?_ ?_;rotate_left;(intro wy hSw;(try dsimp only at hSw);go_simp;(first|done|with_reducible rfl));try simp only [Act.put,p1q,p2q,p3q,p4q,p5q,p6q])
   refine qAs ?_;refine qAr 6 (by kernel_rfl) rfl (by rfl) (fun KK hK=>?_);go_simp;refine hK.out _ _ a0.out (fun hHeld=>?_);clear hK KK
   try simp only [Act.put,p1q,p2q,p3q,p4q,p5q,p6q]
   refine wpAnyH_done (by kernel_rfl) ?_ _;clear m0 Q m2 m3 f0 f1 f2 f3 hHeld
   go_wp2_with (first
    | ((with_reducible refine wpList_load_mid ?pa8 156 (.tmp 3) ?pb8 w.heap.size 0 ?pc8 (stC r (s.set n ⟨1,a,c,0⟩)) _ a8.out Tryz.underlying156 ?pd8 aa.out ?pe8);(case pa8=>rfl);(case pb8=>rfl);(case pc8=>rfl);(case pd8=>rfl))
    | ((with_reducible refine wpList_store_mid ?ra8 156 (.tmp 6) (.tmp 35) ?rb8 (w.heap.size+1+1) 0 (stC r (s.set n ⟨1,a,c,0⟩)).toArray ?rc8 ?rd8 a3.out a9.out aj.out ?re8);(case ra8=>rfl);(case rb8=>rfl);(case rc8=>rfl);(case rd8=>rfl)))
   refine qMo (n:=w.heap.size+1+1) rfl rfl ?_ B ?_
   ·exact (G.out.box qCa B).one
   ·exact (qAz (t:=⟨1,a,c,0⟩) (off:=1+n*4) L (Nat.le_refl _)).trans (qAi (qAd _ _ _ _) (by omega) (qAz (t:=⟨1,a,c,0⟩) (off:=1+n*4) L (Nat.le_refl _)).size)
 ·go_simp;have am:Bw Z (Z.alloc (Obj.cells #[U8 0,U8 0] 151)):=(Below.refl _ _).alloc (Nat.le_refl _) _;refine hK.out _ _ (M.out _ (am.drew)) (fun hHeld=>?_);clear hK KK
  try simp only [Act.put,p1q,p2q,p3q,p4q,p5q,p6q]
  refine qAr 10 (by kernel_rfl) rfl (by rfl) (fun KK hK=>?_);go_simp
  go_at_call 110
  refine (qEs (i:=⟨op,d,n,b,J⟩) HT r _ T.out HB.out).mono ?_;rintro e U ⟨rfl,ab⟩;have ag:=qAg ab;obtain ⟨ae,m0,Q,k0,k1⟩:=qLw ag;have D:Bw Z U:=am.trans (ag.mono (by simp));have X:=D.size;refine hK.out _ _ (M.out _ D) (fun hHeld=>?_);clear hK KK
  try simp only [Act.put,p1q,p2q,p3q,p4q,p5q,p6q]
  refine qBb [11] ?_
  repeat (refine tkO (v:=?_) rfl ?_ ?_;rotate_left;(intro wy hSw;(try dsimp only at hSw);go_simp;(first|done|with_reducible rfl));try simp only [Act.put,p1q,p2q,p3q,p4q,p5q,p6q])
  refine qAs ?_;refine qAr 13 (by kernel_rfl) rfl (by rfl) (fun KK hK=>?_);go_simp
  go_at_call 141
  refine (qJy af ai HJ U).mono ?_;rintro e N ⟨rfl,A⟩;have y:Bw Z N:=D.trans (A.mono X);obtain ⟨n0,n1,g0,g1⟩:=qOp ⟨m0,Q,k0,k1⟩ A ae;have z:Z.heap.size<=Z.heap.size:=Nat.le_refl _;have ak:Z.heap.size<N.heap.size:=Nat.lt_of_lt_of_le ae A.size;refine hK.out _ _ (M.out _ y) (fun hHeld=>?_);clear hK KK
  try simp only [Act.put,p1q,p2q,p3q,p4q,p5q,p6q]
  refine qBb [14,15,16] ?_
  repeat (refine tkO (v:=?_) rfl ?_ ?_;rotate_left;(intro wy hSw;(try dsimp only at hSw);go_simp;(first|done|with_reducible rfl));try simp only [Act.put,p1q,p2q,p3q,p4q,p5q,p6q])
  refine qAs ?_;refine qAr 18 (by kernel_rfl) rfl (by rfl) (fun KK hK=>?_);go_simp;refine hK.out _ _ (M.out _ (qAb (qAb y z) z)) (fun hHeld=>?_);clear hK KK
  try simp only [Act.put,p1q,p2q,p3q,p4q,p5q,p6q]
  refine qBb [19] ?_
  repeat (refine tkO (v:=?_) rfl ?_ ?_;rotate_left;(intro wy hSw;(try dsimp only at hSw);go_simp;(first|done|with_reducible rfl));try simp only [Act.put,p1q,p2q,p3q,p4q,p5q,p6q])
  refine qAs ?_;refine wpAnyH_done (by kernel_rfl) ?_ _;obtain ⟨Y,k,HY,I,l,a7,e0,e1⟩:∃ Y k,Hid (Y=(N.setCell ⟨Z.heap.size,0,none⟩ (U8 a)).setCell ⟨Z.heap.size,1,none⟩ (U8 c))/\Hid (Z.heap.size=k)/\Bw Z Y/\(k<Y.heap.size/\Z.heap.size<=k)/\Y.cell? ⟨k,0,none⟩=some (U8 a)/\Y.cell? ⟨k,1,none⟩=some (U8 c):=⟨_,_,rfl,rfl,qAb (qAb y z) z,⟨by simpa [World.setCell] using ak,z⟩,(qAp n0 n1).1,(qAp n0 n1).2⟩;rw [<- HY.out,I.out];clear HY I hHeld;go_wp2;have an:=l.size;have F:=V.out.trans (l.mono V.out.size);have a6:=qAa (ah.out.below l (by omega));have a5:=qAa (a2.out.below l (by omega));obtain ⟨x0,x1,R,x3,x4⟩:=Box.below ad.out l (by omega);refine wp_region_held_drew (S:=fun f=>f.cell? ⟨w.heap.size+1,2,none⟩=some (I4 n)/\f.cell? ⟨k,0,none⟩=some (U8 a)/\f.cell? ⟨k,1,none⟩=some (U8 c)) (by kernel_rfl) ⟨R,e0,e1⟩ (fun hHeld=>?_);refine qBb [0,1,2,4] ?_
  repeat (refine tkO (v:=?_) rfl ?_ ?_;rotate_left;(intro wy hSw;(try dsimp only at hSw);go_simp;(first|done|with_reducible rfl));try simp only [Act.put,p1q,p2q,p3q,p4q,p5q,p6q])
  refine qAs ?_;refine qAr 3 (by kernel_rfl) rfl (by rfl) (fun KK hK=>?_);go_simp
  go_at_call 131
  refine (qPp a c Y.drew).mono ?_;rintro e E ⟨rfl,O⟩;have u:Bw Y E:=qAg O;have al:=u.size;have K:=yKt ⟨R,e0,e1⟩ u (by omega) a7.1;have g:=qAa (a5.out.below u (by omega));have a1:=qAa (a6.out.below u (by omega));have L:=F.trans (u.mono F.size);refine hK.out _ _ K (fun hHeld=>?_);clear hK KK
  try simp only [Act.put,p1q,p2q,p3q,p4q,p5q,p6q]
  obtain ⟨m0,Q,m2,m3⟩:=(g.out.one.typ T.out hn:AtT E w.heap.size (0+1+n*4) (s.getD n Ty.nil));simp only [Nat.zero_add] at m0 Q m2 m3;have f0:=g.out.frozen (1+n*4);have f1:=g.out.frozen (1+n*4+1);have f2:=g.out.frozen (1+n*4+2);have f3:=g.out.frozen (1+n*4+3)
  have P:k≠w.heap.size:=by omega
  have a0:=qAa (yAu (sb:=w.heap.size) (o:=1+n*4) (t:=⟨1,a,c,0⟩) K (by omega) P);have a4:=qAa (g.out.boxT T.out hn ⟨1,a,c,0⟩);have a8:=qAa a4.out.oneR;have G:=qAa (a1.out.grown (qAd w.heap.size (tyC ⟨1,a,c,0⟩) E (1+n*4)) (fun e=>by injection e with e;omega));have a3:=qAa (show (setT E w.heap.size (1+n*4) ⟨1,a,c,0⟩).there (w.heap.size+1+1) 0 (stC r (s.set n ⟨1,a,c,0⟩)).toArray.size from (by rw [qGn r B];exact G.out.there (by rw [qCa];omega)));refine qBb [5] ?_
  repeat (refine tkO (v:=?_) rfl ?_ ?_;rotate_left;(intro wy hSw;(try dsimp only at hSw);go_simp;(first|done|with_reducible rfl));try simp only [Act.put,p1q,p2q,p3q,p4q,p5q,p6q])
  refine qAs ?_;refine qAr 6 (by kernel_rfl) rfl (by rfl) (fun KK hK=>?_);go_simp;refine hK.out _ _ a0.out (fun hHeld=>?_);clear hK KK
  try simp only [Act.put,p1q,p2q,p3q,p4q,p5q,p6q]
  refine wpAnyH_done (by kernel_rfl) ?_ _;clear m0 Q m2 m3 f0 f1 f2 f3 hHeld
  go_wp2_with (first
   | ((with_reducible refine wpList_load_mid ?pa9 156 (.tmp 3) ?pb9 w.heap.size 0 ?pc9 (stC r (s.set n ⟨1,a,c,0⟩)) _ a8.out Tryz.underlying156 ?pd9 aa.out ?pe9);(case pa9=>rfl);(case pb9=>rfl);(case pc9=>rfl);(case pd9=>rfl))
   | ((with_reducible refine wpList_store_mid ?ra9 156 (.tmp 6) (.tmp 35) ?rb9 (w.heap.size+1+1) 0 (stC r (s.set n ⟨1,a,c,0⟩)).toArray ?rc9 ?rd9 a3.out a9.out aj.out ?re9);(case ra9=>rfl);(case rb9=>rfl);(case rc9=>rfl);(case rd9=>rfl)))
  refine qMo (n:=w.heap.size+1+1) rfl rfl ?_ B ?_
  ·exact (G.out.box qCa B).one
  ·exact (qAz (t:=⟨1,a,c,0⟩) (off:=1+n*4) L (Nat.le_refl _)).trans (qAi (qAd _ _ _ _) (by omega) (qAz (t:=⟨1,a,c,0⟩) (off:=1+n*4) L (Nat.le_refl _)).size)
-- YES END
def qJb (i:In) (r:Bool) (s:St) (holds:Bool):Bool×St :=
 match qDb i.op (qBg s i.a).lo (qBg s i.a).hi (qBa i s).lo (qBa i s).hi holds with
 | none=>(false,stZ)
 | some p=>(r,s.set i.a.toNat (qHk p.1 p.2))
theorem yDo (nm:Nat)(i:In)(r:Bool)(s:St)(c:Bool)(w:World)(k:Made8 nm s)(l:0<=i.a/\i.a<=7)(g:i.b=8∨(0<=i.b/\i.b<=7)):Cl 118 #[stV r s,i.v,.bool c] w fun e y=>e=.returned (stV (qJb i r s c).1 (qJb i r s c).2)/\Bw w y:=by
 obtain ⟨op,d,a,b,f⟩:=i;simp only at l g;obtain ⟨n,rfl⟩:=Int.eq_ofNat_of_zero_le l.1
 have o:n<8:=by omega
 have u:qBg s (n:Int)=s.getD n Ty.nil:=rfl;unfold qJb;simp only;rw [u]
 cases hq:qDb op (s.getD n Ty.nil).lo (s.getD n Ty.nil).hi (qBa ⟨op,d,n,b,f⟩ s).lo (qBa ⟨op,d,n,b,f⟩ s).hi c with
 | none=>exact yEw nm op d b f n r s c w k o g 0 0 _ _ _ _ _ _ _ _ rfl rfl (show qBh (qDb op (s.getD n Ty.nil).lo (s.getD n Ty.nil).hi (qBa ⟨op,d,n,b,f⟩ s).lo (qBa ⟨op,d,n,b,f⟩ s).hi c)=_ by rw [hq];rfl)
 | some p=>exact yDs nm op d b f n r s c w k o g p.1 p.2 _ _ _ _ _ _ _ _ rfl rfl (show qBh (qDb op (s.getD n Ty.nil).lo (s.getD n Ty.nil).hi (qBa ⟨op,d,n,b,f⟩ s).lo (qBa ⟨op,d,n,b,f⟩ s).hi c)=_ by rw [hq];rfl)
end Go.Proofs.YtmdhljoicnommaaGreat
