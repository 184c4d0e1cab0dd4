/-
  S10Book
  S10Book2
-/
import Derived.Test.YtmdhljoicnommaaGreatME26
import Derived.Deep.RegionHeldLaw
namespace Go.Proofs.YtmdhljoicnommaaGreat
set_option maxHeartbeats 12800000
open Go.RowKit
set_option linter.unusedVariables false
set_option linter.unusedSimpArgs false
set_option maxRecDepth 100000
def akC (a:Ak):List Value:=[.int .i64 a.k,.int .i64 a.a,.int .u64 a.n]
def qJu (ks:List Ak):List Value:=ks.flatMap akC
theorem yOq (ks:List Ak)(a:Ak):qJu (ks++[a])=qJu ks++akC a:=by simp [qJu]
theorem ySn:∀ (ks:List Ak){k j:Nat},k<ks.length->j<3->(qJu ks)[k*3+j]? = (akC (ks.getD k Ak.nil))[j]? := by
 intro ks
 induction ks with
 | nil=>intro k j h;simp at h
 | cons x l ih =>
  intro k j b c;have a:(akC x).length=3:=rfl;unfold qJu at ih ⊢
  cases k with
  | zero =>
   simp only [List.flatMap_cons,Nat.zero_mul,Nat.zero_add];rw [List.getElem?_append_left (by omega)]
   rfl
  | succ k =>
   simp only [List.flatMap_cons];rw [show (k+1)*3+j=(akC x).length+(k*3+j) by rw [a,Nat.succ_mul];omega,List.getElem?_append_right (by omega),show (akC x).length+(k*3+j)-(akC x).length=k*3+j by omega];rw [ih (by simpa using b) c]
   simp
structure Bk (w:World) (B c:Nat) (v:Value) (ks:List Ak):Prop where
 hp:Hp w c 64 [v]
 row:w.ownsRow B 98 3 v ks.length (qJu ks)
theorem qQe {w:World}{B:Nat}{e d:TypeId}{z:Nat}{v:Value}{n:Nat}{xs:List Value}(h:w.ownsRow B e z v n xs){b:Nat}{cs:List Value}(a:Hp w b d cs)(c:e≠d):v.ownBlock≠some b:=by
 rcases h with ⟨_,⟨rfl,rfl⟩|⟨g,cap,o,rfl,_,k,_⟩⟩
 ·simp [Value.ownBlock]
 ·intro f
  simp [Value.ownBlock] at f
  subst f;unfold Hp at a;rw [k] at a;injection a with i;injection i with _ l;exact c l
theorem qCw {w:World}{b b':Nat}{e f:TypeId}{cs d:List Value}(h:Hp w b e cs)(a:Hp w b' f d)(c:e≠f):b≠b':=by
 intro g;subst g;unfold Hp at h a;rw [h] at a;injection a with i;injection i with _ k;exact c k
structure Chg (w w':World) (S:Nat->Prop):Prop where
 os:w'.os=w.os
 tape:w'.tape=w.tape
 output:w'.output=w.output
 size:w.heap.size<=w'.heap.size
 block:∀ k,k<w.heap.size->¬ S k->w'.heap[k]? = w.heap[k]?
theorem Chg.trans {w d c:World}{S T:Nat->Prop}(h:Chg w d S)(g:Chg d c T)(f:∀ k,k<w.heap.size->T k->S k):Chg w c S :=
 ⟨g.os.trans h.os,g.tape.trans h.tape,g.output.trans h.output,Nat.le_trans h.size g.size,fun k a b=>(g.block k (Nat.lt_of_lt_of_le a h.size) (fun e=>b (f k a e))).trans (h.block k a b)⟩
theorem Chg.of_grown {w a:World}{b:Nat}{S:Nat->Prop}(h:w.grownBy a (some b))(d:S b):Chg w a S :=
 ⟨h.os,h.tape,h.output,h.size,fun k f c=>h.block k f (fun e=>by injection e with e;exact c (e ▸ d))⟩
theorem Chg.of_grown' {w a:World}{r:Option Nat}{S:Nat->Prop}(h:w.grownBy a r)(d:∀ b,r=some b->S b):Chg w a S :=
 ⟨h.os,h.tape,h.output,h.size,fun k f c=>h.block k f (fun e=>c (d k e.symm))⟩
theorem Chg.of_below {w a:World}{S:Nat->Prop}(h:Bw w a):Chg w a S :=
 ⟨h.os,h.tape,h.output,h.size,fun k b _=>h.block k b⟩
theorem Chg.refl (w:World)(S:Nat->Prop):Chg w w S:=⟨rfl,rfl,rfl,Nat.le_refl _,fun _ _ _=>rfl⟩
theorem Chg.mono {w a:World}{S T:Nat->Prop}(h:Chg w a S)(d:∀ k,S k->T k):Chg w a T:=⟨h.os,h.tape,h.output,h.size,fun k c b=>h.block k c (fun e=>b (d k e))⟩
theorem Chg.below {w a:World}{S:Nat->Prop}{B:Nat}(h:Chg w a S)(b:∀ k,S k->B<=k)(c:B<=w.heap.size):Below B w a :=
 ⟨h.os,h.tape,h.output,h.size,fun k d=>h.block k (by omega) (fun e=>by have:=b k e;omega)⟩
theorem Hp.chg {w a:World}{b:Nat}{t:TypeId}{cs:List Value}{S:Nat->Prop}(h:Hp w b t cs)(d:Chg w a S)(c:¬ S b):Hp a b t cs:=by
 unfold Hp;rw [d.block b h.lt c];exact h
theorem qSy {w a:World}{B:Nat}{e:TypeId}{z:Nat}{v:Value}{n:Nat}{xs:List Value}{S:Nat->Prop}(h:w.ownsRow B e z v n xs)(l:Chg w a S)(i:∀ k,v.ownBlock=some k->¬ S k):a.ownsRow B e z v n xs:=by
 rcases h with ⟨c,o|⟨g,cap,b,rfl,f,d,r⟩⟩
 ·exact ⟨c,.inl o⟩
 ·refine ⟨c,.inr ⟨g,cap,b,rfl,f,?_,r⟩⟩;rw [l.block g (Array.getElem?_eq_some_iff.1 d).1 (i g rfl)];exact d
def bkS (c:Nat) (v:Value) (k:Nat):Prop:=k=c∨v.ownBlock=some k
def RowNew (w:World) (v v':Value):Prop:=v'.ownBlock=v.ownBlock∨∃ k,v'.ownBlock=some k/\w.heap.size<=k
theorem RowNew.trans {w c:World}{v a b:Value}(h:RowNew w v a)(g:RowNew c a b)(l:w.heap.size<=c.heap.size):RowNew w v b:=by
 rcases g with g|⟨k,f,n⟩
 ·rcases h with h|⟨k,d,i⟩
  ·exact .inl (g.trans h)
  ·exact .inr ⟨k,g.trans d,i⟩
 ·exact .inr ⟨k,f,by omega⟩
theorem RowNew.old {w:World}{v b:Value}(h:RowNew w v b){c k:Nat}(f:k<w.heap.size)(a:bkS c b k):bkS c v k:=by
 rcases a with a|a
 ·exact .inl a
 ·rcases h with h|⟨j,d,g⟩
  ·exact .inr (by rw [<- h];exact a)
  ·rw [d] at a;injection a with a;omega
theorem Bk.open {w:World}{B c:Nat}{v:Value}{ks:List Ak}(h:Bk w B c v ks):∃ a cap,v=.slice a ks.length cap/\ks.length<=cap/\cap<=9223372036854775807/\w.cell? ⟨c,0,none⟩=some v/\(0<ks.length->∃ g,a=some ⟨g,0,none⟩/\g<w.heap.size/\∀ k,k<ks.length->w.cell? ⟨g,k*3,none⟩=some (I4 (ks.getD k Ak.nil).k)/\w.cell? ⟨g,k*3+1,none⟩=some (I4 (ks.getD k Ak.nil).a)/\w.cell? ⟨g,k*3+2,none⟩=some (U8 (ks.getD k Ak.nil).n)):=by
 have f:w.cell? ⟨c,0,none⟩=some v:=h.hp.cell rfl;have z:=h.row
 rcases z with ⟨A,⟨rfl,E⟩|⟨g,cap,i,rfl,r,o,d,l,y,u⟩⟩
 ·refine ⟨none,0,by rw [E],by omega,by omega,f,fun h=>by omega⟩
 ·unfold maxLen at l;refine ⟨_,cap,rfl,d,by omega,f,fun s=>⟨g,rfl,(Array.getElem?_eq_some_iff.1 o).1,fun k D=>?_⟩⟩
  have b:∀ j,j<3->w.cell? ⟨g,k*3+j,none⟩=(akC (ks.getD k Ak.nil))[j]? := fun j F=>by
   rw [<- ySn ks D F];exact World.ownsRow.cellAt (w:=w) (base:=B) (e:=98) (size:=3) (g:=g) (n:=ks.length) (cap:=cap) (xs:=qJu ks) ⟨A,.inr ⟨g,cap,i,rfl,r,o,d,l,y,u⟩⟩ (k*3+j) (by omega)
  exact ⟨b 0 (by omega),b 1 (by omega),b 2 (by omega)⟩
theorem qMm (w:World)(a:Ak)(t:TypeId):∀ j u,(akC a)[j]? = some u->(w.alloc (.cells #[I4 a.k,I4 a.a,U8 a.n] t)).cell? ((⟨w.heap.size,0,none⟩:Addr).add j)=some u:=by
 intro j u b;rw [qIq,Nat.zero_add,World.cell?_alloc_at _ _ _ _ rfl];exact (List.getElem?_toArray (xs:=akC a)).trans b
theorem qLc (a:Ak):∀ u∈akC a,u.oneCell'=true:=by
 intro u b
 simp [akC] at b
 rcases b with rfl|rfl|rfl<;>rfl
theorem qKx {w:World}{base:Nat}{e:TypeId}{z:Nat}{v:Value}{n:Nat}{xs:List Value}(h:w.ownsRow base e z v n xs):∃ a cap,v=.slice a n cap:=by
 rcases h with ⟨c,⟨rfl,rfl⟩|⟨g,cap,b,rfl,_⟩⟩
 ·exact ⟨_,_,rfl⟩
 ·exact ⟨_,_,rfl⟩
theorem Bk.put {w f:World}{B c:Nat}{v d:Value}{ks:List Ak}{a:Ak}{t:TypeId}(h:Bk w B c v ks)(z:(w.alloc (.cells #[I4 a.k,I4 a.a,U8 a.n] t)).grownBy f v.ownBlock)(i:f.ownsRow B 98 3 d (ks.length+1) (qJu ks++akC a))(o:d.ownBlock=v.ownBlock∨d.ownBlock=some (w.alloc (.cells #[I4 a.k,I4 a.a,U8 a.n] t)).heap.size) :
  Bk (f.setCell ⟨c,0,none⟩ d) B c d (ks++[a])/\Chg w (f.setCell ⟨c,0,none⟩ d) (bkS c v)/\RowNew w v d/\f.cell? ⟨c,0,none⟩=some v/\f.frozen? ⟨c,0,none⟩=false:=by
 have s:v.ownBlock≠some c:=qQe h.row h.hp (by decide);have g:Hp f c 64 [v]:=(h.hp.alloc _).grown z (fun e=>s e.symm);have A:=g.set 0 d;have r:d.ownBlock≠some c:=qQe i g (by decide);have y:Chg w f (bkS c v):=(Chg.of_below (S:=bkS c v) (qGr w _)).trans (Chg.of_grown' z (S:=bkS c v) (fun b D=>.inr D)) (fun k _ l=>l);have u:Chg f (f.setCell ⟨c,0,none⟩ d) (bkS c v):=Chg.of_grown (qAc _ _ _ _) (.inl rfl);refine ⟨⟨A,?_⟩,y.trans u (fun k _ l=>l),?_,g.cell rfl,g.frozen 0⟩
 ·rw [List.length_append,yOq];exact qSy i (Chg.of_grown (S:=fun k=>k=c) (qAc _ _ _ _) rfl) (fun k l e=>r (e ▸ l))
 ·rcases o with o|o
  ·exact .inl o
  ·exact .inr ⟨_,o,by simp⟩
theorem qXs (a n:Int)(hi:Hid (inB a=true)){B c:Nat}{v:Value}{ks:List Ak}(w:World)(h:Bk w B c v ks)(O:B<=w.heap.size)(S:ks.length<=100000):Cl 14 #[.pointer (some ⟨c,0,none⟩),I4 a,U8 n] w fun e i=>e=.returned (I4 0)/\∃ l,Bk i B c l (ks++[⟨1,a,n⟩])/\Chg w i (bkS c v)/\RowNew w v l:=by
 obtain ⟨h0,Q⟩:0<=a/\a<16:=of_decide_eq_true hi.out
 have K:¬ a<0:=by omega
 have L:¬ 15<a:=by omega
 obtain ⟨E,A,f,k,g⟩:=info_parts (P:=Tryz.prog) (e:=98) (z:=.agg #[I4 0,I4 0,U8 0]) (size:=3) (bytes:=24) rfl;have s:Hid (Bk w B c v ks):=h;have o:w.cell? ⟨c,0,none⟩=some v:=h.hp.cell rfl;clear h;go_enter Tryz.func14,Tryz.ntmps14
 go_wp2_with (at_builtin;have G:=o;clear G;go_must (refine wpList_append_own_at _ rfl (.tmp 17) (.tmp 21) 62 rfl B 98 E _ 3 24 Tryz.underlying62 A f k g rfl (by decide) v ks.length (qJu ks) rfl (s.out.row.alloc _) ⟨w.heap.size,0,none⟩ 1 1 (akC ⟨1,a,n⟩) rfl rfl (qMm w ⟨1,a,n⟩ _) (qLc _) (by unfold maxLen;omega) (by omega) (by simp;omega) ?_);intro l i b y _ d;go_must (obtain ⟨R,T,rfl⟩:=qKx b;obtain ⟨u,r,D,N,M⟩:=s.out.put (a:=⟨1,a,n⟩) y b d;have I:Hid _:=u;have J:Hid _:=r;have F:Hid _:=D;clear u r D b y d o))
 go_ret;exact ⟨rfl,_,I.out,J.out,F.out⟩
theorem yRa {a:Int}(h:inB a=false):a<0∨(¬ a<0/\15<a):=by
 have:¬ (0<=a/\a<16):=of_decide_eq_false h
 omega
theorem xCe (a n:Int)(hi:Hid (inB a=false)){c:Nat}(w:World):Cl 14 #[.pointer (some ⟨c,0,none⟩),I4 a,U8 n] w fun e b=>e=.returned (I4 35)/\b=w:=by
 rcases yRa hi.out with h|⟨h,d⟩
 ·go_enter Tryz.func14,Tryz.ntmps14;go_wp2;go_ret;exact ⟨rfl,rfl⟩
 ·go_enter Tryz.func14,Tryz.ntmps14;go_wp2;go_ret;exact ⟨rfl,rfl⟩
theorem yPy {B c:Nat}{v:Value}{ks:List Ak}(w:World)(h:Bk w B c v ks)(L:B<=w.heap.size)(N:ks.length<=100000):Cl 29 #[.pointer (some ⟨c,0,none⟩)] w fun e i=>e=.returned (.tuple #[])/\∃ l,Bk i B c l (ks++[⟨2,0,0⟩])/\Chg w i (bkS c v)/\RowNew w v l:=by
 obtain ⟨D,y,f,k,g⟩:=info_parts (P:=Tryz.prog) (e:=98) (z:=.agg #[I4 0,I4 0,U8 0]) (size:=3) (bytes:=24) rfl;have r:Hid (Bk w B c v ks):=h;have n:w.cell? ⟨c,0,none⟩=some v:=h.hp.cell rfl;clear h;go_enter Tryz.func29,Tryz.ntmps29
 go_wp2_with (at_builtin;have F:=n;clear F;go_must (refine wpList_append_own_at _ rfl (.tmp 6) (.tmp 8) 62 rfl B 98 D _ 3 24 Tryz.underlying62 y f k g rfl (by decide) v ks.length (qJu ks) rfl (r.out.row.alloc _) ⟨w.heap.size,0,none⟩ 1 1 (akC ⟨2,0,0⟩) rfl rfl (qMm w ⟨2,0,0⟩ _) (qLc _) (by unfold maxLen;omega) (by omega) (by simp;omega) ?_);intro l i b u _ d;go_must (obtain ⟨M,O,rfl⟩:=qKx b;obtain ⟨s,o,A,K,J⟩:=r.out.put (a:=⟨2,0,0⟩) u b d;have G:Hid _:=s;have I:Hid _:=o;have E:Hid _:=A;clear s o A b u d n))
 exact bodyPost_end (results_none rfl _ _ _) rfl ⟨rfl,_,G.out,I.out,E.out⟩
theorem yKj (ks:List Ak)(a:Int){k:Nat}(h:k<ks.length){d b c:Int}(f:ks.getD k Ak.nil=⟨d,b,c⟩):qFa (ks.take (k+1)) a=if d=3/\b=a then qKa (qFa (ks.take k) a) c else qFa (ks.take k) a:=by
 rw [yGj ks h,qMa,f]
 rfl
theorem yPz (ks:List Ak)(a:Int){k:Nat}(h:k<ks.length){b c d:Int}(f:ks.getD k Ak.nil=⟨b,c,d⟩):qJt (ks.take (k+1)) a=if b=2 then 0 else if b=1/\c=a then d else qJt (ks.take k) a:=by
 rw [yGj ks h,qNc,f]
theorem yOh (a:Int)(hi:Hid (inB a=true)){B c:Nat}{v:Value}{ks:List Ak}(w:World)(h:Bk w B c v ks){x:Int}(J:Hid (qFa ks a=x)):Cl 94 #[.pointer (some ⟨c,0,none⟩),I4 a] w fun e I=>e=.returned (.tuple #[U8 x,I4 0])/\I=w:=by
 obtain ⟨h0,S⟩:0<=a/\a<16:=of_decide_eq_true hi.out
 have O:¬ a<0:=by omega
 have P:¬ 15<a:=by omega
 obtain ⟨L,K,rfl,R,hm,Q,f⟩:=h.open;have D:Hid (0<ks.length->∃ g,L=some ⟨g,0,none⟩/\g<w.heap.size/\∀ k,k<ks.length->w.cell? ⟨g,k*3,none⟩=some (I4 (ks.getD k Ak.nil).k)/\w.cell? ⟨g,k*3+1,none⟩=some (I4 (ks.getD k Ak.nil).a)/\w.cell? ⟨g,k*3+2,none⟩=some (U8 (ks.getD k Ak.nil).n)):=f;clear f h;go_enter Tryz.func94,Tryz.ntmps94;go_wp2
 go_loopw [6,7] (fun s i wr=>∃ k:Nat,k<=ks.length/\s=U8 (qFa (ks.take k) a)/\i=I4 k/\w=wr) (fun _ i _=>ks.length-(intOf i).toNat)
 case atStart=>exact ⟨0,by omega,rfl,rfl,rfl⟩
 case round =>
  obtain ⟨k,T,rfl,rfl,rfl⟩:=hrel;obtain ⟨y,l⟩:∃ y,Hid (qFa (ks.take k) a=y):=⟨_,rfl⟩;rw [l.out]
  by_cases hlt:k<ks.length
  ·obtain ⟨g,rfl,M,E⟩:=D.out (by omega);obtain ⟨r,d,o,G⟩:∃ r d o,Hid (ks.getD k Ak.nil=⟨r,d,o⟩):=⟨_,_,_,rfl⟩;obtain ⟨z,A,F⟩:=E k hlt;rw [G.out] at z A F;simp only at z A F;have b:=yKj ks a hlt G.out;rw [l.out] at b
   have N:(k:Int)<ks.length:=by omega
   clear E
   by_cases h3:r=3
   ·subst h3
    by_cases haa:d=a
    ·subst haa;rw [if_pos ⟨rfl,rfl⟩] at b;have b:Hid (qFa (ks.take (k+1)) d=qKa y o):=b;go_wp2
     go_roundw
     case rel=>exact ⟨k+1,by omega,by rw [b.out];rfl,by go_num,trivial⟩
     case measure=>simp [intOf];omega
    ·rw [if_neg (fun e=>haa e.2)] at b;have b:Hid (qFa (ks.take (k+1)) a=y):=b;go_wp2
     go_roundw
     case rel=>exact ⟨k+1,by omega,by rw [b.out],by go_num,trivial⟩
     case measure=>simp [intOf];omega
   ·rw [if_neg (fun e=>h3 e.1)] at b;have b:Hid (qFa (ks.take (k+1)) a=y):=b;go_wp2
    go_roundw
    case rel=>exact ⟨k+1,by omega,by rw [b.out],by go_num,trivial⟩
    case measure=>simp [intOf];omega
  ·obtain rfl:k=ks.length:=by omega
   have u:y=x:=by rw [<- l.out,List.take_length];exact J.out
   subst u;clear hlt;go_wp2;go_ret2;exact ⟨rfl,rfl⟩
theorem yUa (a:Int)(hi:Hid (inB a=true)){B c:Nat}{v:Value}{ks:List Ak}(w:World)(h:Bk w B c v ks){x:Int}(J:Hid (qJt ks a=x)):Cl 69 #[.pointer (some ⟨c,0,none⟩),I4 a] w fun e I=>e=.returned (.tuple #[U8 x,I4 0])/\I=w:=by
 obtain ⟨h0,r⟩:0<=a/\a<16:=of_decide_eq_true hi.out
 have O:¬ a<0:=by omega
 have P:¬ 15<a:=by omega
 obtain ⟨L,K,rfl,R,hm,Q,l⟩:=h.open;have A:Hid (0<ks.length->∃ g,L=some ⟨g,0,none⟩/\g<w.heap.size/\∀ k,k<ks.length->w.cell? ⟨g,k*3,none⟩=some (I4 (ks.getD k Ak.nil).k)/\w.cell? ⟨g,k*3+1,none⟩=some (I4 (ks.getD k Ak.nil).a)/\w.cell? ⟨g,k*3+2,none⟩=some (U8 (ks.getD k Ak.nil).n)):=l;clear l h;go_enter Tryz.func69,Tryz.ntmps69;go_wp2
 go_loopw [6] (fun i wr=>∃ k:Nat,k<=ks.length/\i=I4 ((k:Int)-1)/\Hid (qJt (ks.take k) a=x)/\w=wr) (fun i _=>(intOf i+1).toNat)
 case atStart=>exact ⟨ks.length,by omega,by go_num,by show _=_;rw [List.take_length];exact J.out,rfl⟩
 case round =>
  obtain ⟨k,S,rfl,D,rfl⟩:=hrel
  cases k with
  | zero =>
   have u:x=0:=D.out.symm;subst u;rw [show ((0:Nat):Int)-1 = -1 by omega];go_wp2;go_ret2;exact ⟨rfl,rfl⟩
  | succ k =>
   rw [show ((k+1:Nat):Int)-1=(k:Int) by omega]
   have f:k<ks.length:=by omega
   obtain ⟨g,rfl,M,E⟩:=A.out (by omega);obtain ⟨d,o,z,G⟩:∃ d o z,Hid (ks.getD k Ak.nil=⟨d,o,z⟩):=⟨_,_,_,rfl⟩;obtain ⟨s,y,F⟩:=E k f;rw [G.out] at s y F;simp only at s y F;have b:=yPz ks a f G.out;rw [D.out] at b
   have N:(k:Int)<ks.length:=by omega
   clear E
   by_cases h2:d=2
   ·subst h2;rw [if_pos rfl] at b;subst b;go_wp2;go_ret2;exact ⟨rfl,rfl⟩
   ·rw [if_neg h2] at b
    by_cases r:d=1
    ·subst r
     by_cases haa:o=a
     ·subst haa;rw [if_pos ⟨rfl,rfl⟩] at b;subst b;go_wp2;go_ret2;exact ⟨rfl,rfl⟩
     ·rw [if_neg (fun e=>haa e.2)] at b;have b:Hid (qJt (ks.take k) a=x):=b.symm;go_wp2
      go_roundw
      case rel=>exact ⟨k,by omega,by go_num,b.out,trivial⟩
      case measure=>simp [intOf]
    ·rw [if_neg (fun e=>r e.1)] at b;have b:Hid (qJt (ks.take k) a=x):=b.symm;go_wp2
     go_roundw
     case rel=>exact ⟨k,by omega,by go_num,b.out,trivial⟩
     case measure=>simp [intOf]
theorem yWm (a:Int)(hi:Hid (inB a=true)){B c:Nat}{v:Value}{ks:List Ak}(w:World)(h:Bk w B c v ks)(R:B<=w.heap.size)(U:ks.length<=100000){x:Int}(J:Hid (qFa (ks++[⟨3,a,1⟩]) a=x)):Cl 62 #[.pointer (some ⟨c,0,none⟩),I4 a] w fun e i=>e=.returned (.tuple #[U8 x,I4 0])/\∃ l,Bk i B c l (ks++[⟨3,a,1⟩])/\Chg w i (bkS c v)/\RowNew w v l:=by
 obtain ⟨h0,S⟩:0<=a/\a<16:=of_decide_eq_true hi.out
 have L:¬ a<0:=by omega
 have M:¬ 15<a:=by omega
 obtain ⟨F,A,f,k,g⟩:=info_parts (P:=Tryz.prog) (e:=98) (z:=.agg #[I4 0,I4 0,U8 0]) (size:=3) (bytes:=24) rfl;have r:Hid (Bk w B c v ks):=h;have n:w.cell? ⟨c,0,none⟩=some v:=h.hp.cell rfl;clear h;go_enter Tryz.func62,Tryz.ntmps62
 go_wp2_with (first
  | (at_builtin;have I:=n;clear I;go_must (refine wpList_append_own_at _ rfl (.tmp 16) (.tmp 19) 62 rfl B 98 F _ 3 24 Tryz.underlying62 A f k g rfl (by decide) v ks.length (qJu ks) rfl (r.out.row.alloc _) ⟨w.heap.size,0,none⟩ 1 1 (akC ⟨3,a,1⟩) rfl rfl (qMm w ⟨3,a,1⟩ _) (qLc _) (by unfold maxLen;omega) (by omega) (by simp;omega) ?_);intro l i b y _ d;go_must (obtain ⟨T,V,rfl⟩:=qKx b;obtain ⟨s,o,E,Q,N⟩:=r.out.put (a:=⟨3,a,1⟩) y b d;have u:Hid _:=s;have K:Hid _:=o;have G:Hid _:=E;clear s o E b y d n))
  | (go_at_call 94;go_must (refine (yOh a hi _ u.out J).mono ?_);rintro e O ⟨rfl,D⟩;go_must (subst D)))
 go_ret2;exact ⟨rfl,_,u.out,K.out,G.out⟩
end Go.Proofs.YtmdhljoicnommaaGreat
