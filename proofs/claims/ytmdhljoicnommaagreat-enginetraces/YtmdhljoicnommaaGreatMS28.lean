/-
  S10Book
  S10Book2
-/
import Derived.Test.YtmdhljoicnommaaGreatMS26
import Derived.Deep.RegionHeldLaw
namespace Go.Proofs.YtmdhljoicnommaaGreat
set_option maxHeartbeats 12800000
open Go.RowKit
set_option linter.unusedVariables false
set_option linter.unusedSimpArgs false
set_option maxRecDepth 100000
def akC (a:Ak):List Value:=[.int .i64 a.k,.int .i64 a.a,.int .u64 a.n]
def flatA (ks:List Ak):List Value:=ks.flatMap akC
theorem flatA_app (b:List Ak)(a:Ak):flatA (b++[a])=flatA b++akC a:=by simp [flatA]
theorem flatA_at:∀ (a:List Ak){k j:Nat},k<a.length->j<3->(flatA a)[k*3+j]? = (akC (a.getD k Ak.nil))[j]? := by
 intro a
 induction a with
 | nil=>intro k j h;simp at h
 | cons x l ih =>
  intro k j c d;have b:(akC x).length=3:=rfl;unfold flatA at ih ⊢
  cases k with
  | zero =>
   simp only [List.flatMap_cons,Nat.zero_mul,Nat.zero_add];rw [List.getElem?_append_left (by omega)]
   rfl
  | succ k =>
   simp only [List.flatMap_cons];rw [show (k+1)*3+j=(akC x).length+(k*3+j) by rw [b,Nat.succ_mul];omega,List.getElem?_append_right (by omega),show (akC x).length+(k*3+j)-(akC x).length=k*3+j by omega];rw [ih (by simpa using c) d]
   simp
structure Bk (w:World) (B c:Nat) (v:Value) (ks:List Ak):Prop where
 hp:Hp w c 64 [v]
 row:w.ownsRow B 98 3 v ks.length (flatA ks)
theorem own_type10 {w:World}{B:Nat}{e d:TypeId}{z:Nat}{v:Value}{n:Nat}{xs:List Value}(h:w.ownsRow B e z v n xs){b:Nat}{cs:List Value}(a:Hp w b d cs)(f:e≠d):v.ownBlock≠some b:=by
 rcases h with ⟨_,⟨rfl,rfl⟩|⟨g,cap,o,rfl,_,i,_⟩⟩
 ·simp [Value.ownBlock]
 ·intro c
  simp [Value.ownBlock] at c
  subst c;unfold Hp at a;rw [i] at a;injection a with l;injection l with _ k;exact f k
theorem qBi {w:World}{b b':Nat}{e d:TypeId}{cs c:List Value}(h:Hp w b e cs)(a:Hp w b' d c)(f:e≠d):b≠b':=by
 intro i;subst i;unfold Hp at h a;rw [h] at a;injection a with k;injection k with _ g;exact f g
structure Chg (w w':World) (S:Nat->Prop):Prop where
 os:w'.os=w.os
 tape:w'.tape=w.tape
 output:w'.output=w.output
 size:w.heap.size<=w'.heap.size
 block:∀ k,k<w.heap.size->¬ S k->w'.heap[k]? = w.heap[k]?
theorem Chg.trans {w c b:World}{S T:Nat->Prop}(h:Chg w c S)(g:Chg c b T)(f:∀ k,k<w.heap.size->T k->S k):Chg w b S :=
 ⟨g.os.trans h.os,g.tape.trans h.tape,g.output.trans h.output,Nat.le_trans h.size g.size,fun k a d=>(g.block k (Nat.lt_of_lt_of_le a h.size) (fun e=>d (f k a e))).trans (h.block k a d)⟩
theorem Chg.of_grown {w a:World}{b:Nat}{S:Nat->Prop}(h:w.grownBy a (some b))(f:S b):Chg w a S :=
 ⟨h.os,h.tape,h.output,h.size,fun k d c=>h.block k d (fun e=>by injection e with e;exact c (e ▸ f))⟩
theorem Chg.of_grown' {w a:World}{r:Option Nat}{S:Nat->Prop}(h:w.grownBy a r)(f:∀ b,r=some b->S b):Chg w a S :=
 ⟨h.os,h.tape,h.output,h.size,fun k d c=>h.block k d (fun e=>c (f k e.symm))⟩
theorem Chg.of_below {w a:World}{S:Nat->Prop}(h:Bw w a):Chg w a S :=
 ⟨h.os,h.tape,h.output,h.size,fun k b _=>h.block k b⟩
theorem Chg.mono {w a:World}{S T:Nat->Prop}(h:Chg w a S)(c:∀ k,S k->T k):Chg w a T:=⟨h.os,h.tape,h.output,h.size,fun k d b=>h.block k d (fun e=>b (c k e))⟩
theorem Chg.below {w a:World}{S:Nat->Prop}{B:Nat}(h:Chg w a S)(b:∀ k,S k->B<=k)(c:B<=w.heap.size):Below B w a :=
 ⟨h.os,h.tape,h.output,h.size,fun k d=>h.block k (by omega) (fun e=>by have:=b k e;omega)⟩
theorem Hp.chg {w a:World}{b:Nat}{t:TypeId}{cs:List Value}{S:Nat->Prop}(h:Hp w b t cs)(c:Chg w a S)(d:¬ S b):Hp a b t cs:=by
 unfold Hp;rw [c.block b h.lt d];exact h
theorem own_chg {w d:World}{B:Nat}{e:TypeId}{z:Nat}{v:Value}{n:Nat}{xs:List Value}{S:Nat->Prop}(h:w.ownsRow B e z v n xs)(i:Chg w d S)(l:∀ k,v.ownBlock=some k->¬ S k):d.ownsRow B e z v n xs:=by
 rcases h with ⟨c,o|⟨g,cap,b,rfl,f,a,r⟩⟩
 ·exact ⟨c,.inl o⟩
 ·refine ⟨c,.inr ⟨g,cap,b,rfl,f,?_,r⟩⟩;rw [i.block g (Array.getElem?_eq_some_iff.1 a).1 (l g rfl)];exact a
def bkS (c:Nat) (v:Value) (k:Nat):Prop:=k=c∨v.ownBlock=some k
def RowNew (w:World) (v v':Value):Prop:=v'.ownBlock=v.ownBlock∨∃ k,v'.ownBlock=some k/\w.heap.size<=k
theorem Bk.open {w:World}{B c:Nat}{v:Value}{b:List Ak}(h:Bk w B c v b):∃ a cap,v=.slice a b.length cap/\b.length<=cap/\cap<=9223372036854775807/\w.cell? ⟨c,0,none⟩=some v/\(0<b.length->∃ g,a=some ⟨g,0,none⟩/\g<w.heap.size/\∀ k,k<b.length->w.cell? ⟨g,k*3,none⟩=some (I4 (b.getD k Ak.nil).k)/\w.cell? ⟨g,k*3+1,none⟩=some (I4 (b.getD k Ak.nil).a)/\w.cell? ⟨g,k*3+2,none⟩=some (U8 (b.getD k Ak.nil).n)):=by
 have l:w.cell? ⟨c,0,none⟩=some v:=h.hp.cell rfl;have u:=h.row
 rcases u with ⟨A,⟨rfl,E⟩|⟨g,cap,f,rfl,s,i,r,o,F,D⟩⟩
 ·refine ⟨none,0,by rw [E],by omega,by omega,l,fun h=>by omega⟩
 ·unfold maxLen at o;refine ⟨_,cap,rfl,r,by omega,l,fun z=>⟨g,rfl,(Array.getElem?_eq_some_iff.1 i).1,fun k y=>?_⟩⟩
  have d:∀ j,j<3->w.cell? ⟨g,k*3+j,none⟩=(akC (b.getD k Ak.nil))[j]? := fun j G=>by
   rw [<- flatA_at b y G];exact World.ownsRow.cellAt (w:=w) (base:=B) (e:=98) (size:=3) (g:=g) (n:=b.length) (cap:=cap) (xs:=flatA b) ⟨A,.inr ⟨g,cap,f,rfl,s,i,r,o,F,D⟩⟩ (k*3+j) (by omega)
  exact ⟨d 0 (by omega),d 1 (by omega),d 2 (by omega)⟩
theorem three_lit (w:World)(a:Ak)(t:TypeId):∀ j u,(akC a)[j]? = some u->(w.alloc (.cells #[I4 a.k,I4 a.a,U8 a.n] t)).cell? ((⟨w.heap.size,0,none⟩:Addr).add j)=some u:=by
 intro j u b;rw [add_none,Nat.zero_add,World.cell?_alloc_at _ _ _ _ rfl];exact (List.getElem?_toArray (xs:=akC a)).trans b
theorem three_cell (a:Ak):∀ u∈akC a,u.oneCell'=true:=by
 intro u b
 simp [akC] at b
 rcases b with rfl|rfl|rfl<;>rfl
theorem own_shape {w:World}{base:Nat}{e:TypeId}{z:Nat}{v:Value}{n:Nat}{xs:List Value}(h:w.ownsRow base e z v n xs):∃ a cap,v=.slice a n cap:=by
 rcases h with ⟨c,⟨rfl,rfl⟩|⟨g,cap,b,rfl,_⟩⟩
 ·exact ⟨_,_,rfl⟩
 ·exact ⟨_,_,rfl⟩
theorem Bk.put {w d:World}{B c:Nat}{v f:Value}{r:List Ak}{a:Ak}{t:TypeId}(h:Bk w B c v r)(u:(w.alloc (.cells #[I4 a.k,I4 a.a,U8 a.n] t)).grownBy d v.ownBlock)(l:d.ownsRow B 98 3 f (r.length+1) (flatA r++akC a))(i:f.ownBlock=v.ownBlock∨f.ownBlock=some (w.alloc (.cells #[I4 a.k,I4 a.a,U8 a.n] t)).heap.size) :
  Bk (d.setCell ⟨c,0,none⟩ f) B c f (r++[a])/\Chg w (d.setCell ⟨c,0,none⟩ f) (bkS c v)/\RowNew w v f/\d.cell? ⟨c,0,none⟩=some v/\d.frozen? ⟨c,0,none⟩=false:=by
 have A:v.ownBlock≠some c:=own_type10 h.row h.hp (by decide);have g:Hp d c 64 [v]:=(h.hp.alloc _).grown u (fun e=>A e.symm);have E:=g.set 0 f;have s:f.ownBlock≠some c:=own_type10 l g (by decide);have y:Chg w d (bkS c v):=(Chg.of_below (S:=bkS c v) (qDa w _)).trans (Chg.of_grown' u (S:=bkS c v) (fun b D=>.inr D)) (fun k _ o=>o);have z:Chg d (d.setCell ⟨c,0,none⟩ f) (bkS c v):=Chg.of_grown (qAb _ _ _ _) (.inl rfl);refine ⟨⟨E,?_⟩,y.trans z (fun k _ o=>o),?_,g.cell rfl,g.frozen 0⟩
 ·rw [List.length_append,flatA_app];exact own_chg l (Chg.of_grown (S:=fun k=>k=c) (qAb _ _ _ _) rfl) (fun k o e=>s (e ▸ o))
 ·rcases i with i|i
  ·exact .inl i
  ·exact .inr ⟨_,i,by simp⟩
theorem bstore_in (a n:Int)(hi:Hid (inB a=true)){B c:Nat}{v:Value}{d:List Ak}(w:World)(h:Bk w B c v d)(O:B<=w.heap.size)(T:d.length<=100000):Cl 14 #[.pointer (some ⟨c,0,none⟩),I4 a,U8 n] w fun e o=>e=.returned (I4 0)/\∃ l,Bk o B c l (d++[⟨1,a,n⟩])/\Chg w o (bkS c v)/\RowNew w v l:=by
 obtain ⟨h0,U⟩:0<=a/\a<16:=of_decide_eq_true hi.out
 have M:¬ a<0:=by omega
 have L:¬ 15<a:=by omega
 obtain ⟨G,y,i,g,k⟩:=info_parts (P:=Tryz.prog) (e:=98) (z:=.agg #[I4 0,I4 0,U8 0]) (size:=3) (bytes:=24) rfl;have D:Hid (Bk w B c v d):=h;have r:w.cell? ⟨c,0,none⟩=some v:=h.hp.cell rfl;clear h;go_enter Tryz.func14,Tryz.ntmps14
 go_wp2_with (at_builtin;have F:=r;clear F;go_must (refine wpList_append_own_at _ rfl (.tmp 17) (.tmp 21) 62 rfl B 98 G _ 3 24 Tryz.underlying62 y i g k rfl (by decide) v d.length (flatA d) rfl (D.out.row.alloc _) ⟨w.heap.size,0,none⟩ 1 1 (akC ⟨1,a,n⟩) rfl rfl (three_lit w ⟨1,a,n⟩ _) (three_cell _) (by unfold maxLen;omega) (by omega) (by simp;omega) ?_);intro l o b u _ f;go_must (obtain ⟨S,Q,rfl⟩:=own_shape b;obtain ⟨A,s,E,R,N⟩:=D.out.put (a:=⟨1,a,n⟩) u b f;have I:Hid _:=A;have J:Hid _:=s;have K:Hid _:=E;clear A s E b u f r))
 go_ret;exact ⟨rfl,_,I.out,J.out,K.out⟩
theorem out_cases {a:Int}(h:inB a=false):a<0∨(¬ a<0/\15<a):=by
 have:¬ (0<=a/\a<16):=of_decide_eq_false h
 omega
theorem bstore_out (a n:Int)(hi:Hid (inB a=false)){c:Nat}(w:World):Cl 14 #[.pointer (some ⟨c,0,none⟩),I4 a,U8 n] w fun e b=>e=.returned (I4 35)/\b=w:=by
 rcases out_cases hi.out with h|⟨h,d⟩
 ·go_enter Tryz.func14,Tryz.ntmps14;go_wp2;go_ret;exact ⟨rfl,rfl⟩
 ·go_enter Tryz.func14,Tryz.ntmps14;go_wp2;go_ret;exact ⟨rfl,rfl⟩
theorem bwipe_any {B c:Nat}{v:Value}{d:List Ak}(w:World)(h:Bk w B c v d)(L:B<=w.heap.size)(Q:d.length<=100000):Cl 29 #[.pointer (some ⟨c,0,none⟩)] w fun e n=>e=.returned (.tuple #[])/\∃ l,Bk n B c l (d++[⟨2,0,0⟩])/\Chg w n (bkS c v)/\RowNew w v l:=by
 obtain ⟨F,u,i,g,k⟩:=info_parts (P:=Tryz.prog) (e:=98) (z:=.agg #[I4 0,I4 0,U8 0]) (size:=3) (bytes:=24) rfl;have A:Hid (Bk w B c v d):=h;have o:w.cell? ⟨c,0,none⟩=some v:=h.hp.cell rfl;clear h;go_enter Tryz.func29,Tryz.ntmps29
 go_wp2_with (at_builtin;have E:=o;clear E;go_must (refine wpList_append_own_at _ rfl (.tmp 6) (.tmp 8) 62 rfl B 98 F _ 3 24 Tryz.underlying62 u i g k rfl (by decide) v d.length (flatA d) rfl (A.out.row.alloc _) ⟨w.heap.size,0,none⟩ 1 1 (akC ⟨2,0,0⟩) rfl rfl (three_lit w ⟨2,0,0⟩ _) (three_cell _) (by unfold maxLen;omega) (by omega) (by simp;omega) ?_);intro l n b s _ f;go_must (obtain ⟨O,M,rfl⟩:=own_shape b;obtain ⟨y,r,D,N,K⟩:=A.out.put (a:=⟨2,0,0⟩) s b f;have G:Hid _:=y;have I:Hid _:=r;have J:Hid _:=D;clear y r D b s f o))
 exact bodyPost_end (results_none rfl _ _ _) rfl ⟨rfl,_,G.out,I.out,J.out⟩
theorem count_step (b:List Ak)(a:Int){k:Nat}(h:k<b.length){c f d:Int}(g:b.getD k Ak.nil=⟨c,f,d⟩):countA (b.take (k+1)) a=if c=3/\f=a then addW (countA (b.take k) a) d else countA (b.take k) a:=by
 rw [ak_take b h,countA_snoc,g]
 rfl
theorem word_step (b:List Ak)(a:Int){k:Nat}(h:k<b.length){c f d:Int}(g:b.getD k Ak.nil=⟨c,f,d⟩):wordA (b.take (k+1)) a=if c=2 then 0 else if c=1/\f=a then d else wordA (b.take k) a:=by
 rw [ak_take b h,wordA_snoc,g]
theorem bcount_in (a:Int)(hi:Hid (inB a=true)){B c:Nat}{v:Value}{d:List Ak}(w:World)(h:Bk w B c v d){x:Int}(L:Hid (countA d a=x)):Cl 94 #[.pointer (some ⟨c,0,none⟩),I4 a] w fun e M=>e=.returned (.tuple #[U8 x,I4 0])/\M=w:=by
 obtain ⟨h0,U⟩:0<=a/\a<16:=of_decide_eq_true hi.out
 have Q:¬ a<0:=by omega
 have P:¬ 15<a:=by omega
 obtain ⟨J,K,rfl,S,hm,R,l⟩:=h.open;have I:Hid (0<d.length->∃ g,J=some ⟨g,0,none⟩/\g<w.heap.size/\∀ k,k<d.length->w.cell? ⟨g,k*3,none⟩=some (I4 (d.getD k Ak.nil).k)/\w.cell? ⟨g,k*3+1,none⟩=some (I4 (d.getD k Ak.nil).a)/\w.cell? ⟨g,k*3+2,none⟩=some (U8 (d.getD k Ak.nil).n)):=l;clear l h;go_enter Tryz.func94,Tryz.ntmps94;go_wp2
 go_loopw [6,7] (fun s i wr=>∃ k:Nat,k<=d.length/\s=U8 (countA (d.take k) a)/\i=I4 k/\w=wr) (fun _ i _=>d.length-(intOf i).toNat)
 case atStart=>exact ⟨0,by omega,rfl,rfl,rfl⟩
 case round =>
  obtain ⟨k,T,rfl,rfl,rfl⟩:=hrel;obtain ⟨y,r⟩:∃ y,Hid (countA (d.take k) a=y):=⟨_,rfl⟩;rw [r.out]
  by_cases hlt:k<d.length
  ·obtain ⟨g,rfl,N,G⟩:=I.out (by omega);obtain ⟨u,f,o,z⟩:∃ u f o,Hid (d.getD k Ak.nil=⟨u,f,o⟩):=⟨_,_,_,rfl⟩;obtain ⟨E,D,A⟩:=G k hlt;rw [z.out] at E D A;simp only at E D A;have b:=count_step d a hlt z.out;rw [r.out] at b
   have O:(k:Int)<d.length:=by omega
   clear G
   by_cases h3:u=3
   ·subst h3
    by_cases haa:f=a
    ·subst haa;rw [if_pos ⟨rfl,rfl⟩] at b;have b:Hid (countA (d.take (k+1)) f=addW y o):=b;go_wp2
     go_roundw
     case rel=>exact ⟨k+1,by omega,by rw [b.out];rfl,by go_num,trivial⟩
     case measure=>simp [intOf];omega
    ·rw [if_neg (fun e=>haa e.2)] at b;have b:Hid (countA (d.take (k+1)) a=y):=b;go_wp2
     go_roundw
     case rel=>exact ⟨k+1,by omega,by rw [b.out],by go_num,trivial⟩
     case measure=>simp [intOf];omega
   ·rw [if_neg (fun e=>h3 e.1)] at b;have b:Hid (countA (d.take (k+1)) a=y):=b;go_wp2
    go_roundw
    case rel=>exact ⟨k+1,by omega,by rw [b.out],by go_num,trivial⟩
    case measure=>simp [intOf];omega
  ·obtain rfl:k=d.length:=by omega
   have F:y=x:=by rw [<- r.out,List.take_length];exact L.out
   subst F;clear hlt;go_wp2;go_ret2;exact ⟨rfl,rfl⟩
theorem bword_in (a:Int)(hi:Hid (inB a=true)){B c:Nat}{v:Value}{d:List Ak}(w:World)(h:Bk w B c v d){x:Int}(L:Hid (wordA d a=x)):Cl 69 #[.pointer (some ⟨c,0,none⟩),I4 a] w fun e M=>e=.returned (.tuple #[U8 x,I4 0])/\M=w:=by
 obtain ⟨h0,s⟩:0<=a/\a<16:=of_decide_eq_true hi.out
 have Q:¬ a<0:=by omega
 have P:¬ 15<a:=by omega
 obtain ⟨J,K,rfl,S,hm,R,o⟩:=h.open;have I:Hid (0<d.length->∃ g,J=some ⟨g,0,none⟩/\g<w.heap.size/\∀ k,k<d.length->w.cell? ⟨g,k*3,none⟩=some (I4 (d.getD k Ak.nil).k)/\w.cell? ⟨g,k*3+1,none⟩=some (I4 (d.getD k Ak.nil).a)/\w.cell? ⟨g,k*3+2,none⟩=some (U8 (d.getD k Ak.nil).n)):=o;clear o h;go_enter Tryz.func69,Tryz.ntmps69;go_wp2
 go_loopw [6] (fun i wr=>∃ k:Nat,k<=d.length/\i=I4 ((k:Int)-1)/\Hid (wordA (d.take k) a=x)/\w=wr) (fun i _=>(intOf i+1).toNat)
 case atStart=>exact ⟨d.length,by omega,by go_num,by show _=_;rw [List.take_length];exact L.out,rfl⟩
 case round =>
  obtain ⟨k,T,rfl,D,rfl⟩:=hrel
  cases k with
  | zero =>
   have G:x=0:=D.out.symm;subst G;rw [show ((0:Nat):Int)-1 = -1 by omega];go_wp2;go_ret2;exact ⟨rfl,rfl⟩
  | succ k =>
   rw [show ((k+1:Nat):Int)-1=(k:Int) by omega]
   have l:k<d.length:=by omega
   obtain ⟨g,rfl,N,F⟩:=I.out (by omega);obtain ⟨f,r,E,u⟩:∃ f r E,Hid (d.getD k Ak.nil=⟨f,r,E⟩):=⟨_,_,_,rfl⟩;obtain ⟨A,z,y⟩:=F k l;rw [u.out] at A z y;simp only at A z y;have b:=word_step d a l u.out;rw [D.out] at b
   have O:(k:Int)<d.length:=by omega
   clear F
   by_cases h2:f=2
   ·subst h2;rw [if_pos rfl] at b;subst b;go_wp2;go_ret2;exact ⟨rfl,rfl⟩
   ·rw [if_neg h2] at b
    by_cases s:f=1
    ·subst s
     by_cases haa:r=a
     ·subst haa;rw [if_pos ⟨rfl,rfl⟩] at b;subst b;go_wp2;go_ret2;exact ⟨rfl,rfl⟩
     ·rw [if_neg (fun e=>haa e.2)] at b;have b:Hid (wordA (d.take k) a=x):=b.symm;go_wp2
      go_roundw
      case rel=>exact ⟨k,by omega,by go_num,b.out,trivial⟩
      case measure=>simp [intOf]
    ·rw [if_neg (fun e=>s e.1)] at b;have b:Hid (wordA (d.take k) a=x):=b.symm;go_wp2
     go_roundw
     case rel=>exact ⟨k,by omega,by go_num,b.out,trivial⟩
     case measure=>simp [intOf]
theorem bmark_in (a:Int)(hi:Hid (inB a=true)){B c:Nat}{v:Value}{d:List Ak}(w:World)(h:Bk w B c v d)(Q:B<=w.heap.size)(U:d.length<=100000){x:Int}(J:Hid (countA (d++[⟨3,a,1⟩]) a=x)):Cl 62 #[.pointer (some ⟨c,0,none⟩),I4 a] w fun e n=>e=.returned (.tuple #[U8 x,I4 0])/\∃ l,Bk n B c l (d++[⟨3,a,1⟩])/\Chg w n (bkS c v)/\RowNew w v l:=by
 obtain ⟨h0,X⟩:0<=a/\a<16:=of_decide_eq_true hi.out
 have N:¬ a<0:=by omega
 have M:¬ 15<a:=by omega
 obtain ⟨I,y,i,g,k⟩:=info_parts (P:=Tryz.prog) (e:=98) (z:=.agg #[I4 0,I4 0,U8 0]) (size:=3) (bytes:=24) rfl;have E:Hid (Bk w B c v d):=h;have o:w.cell? ⟨c,0,none⟩=some v:=h.hp.cell rfl;clear h;go_enter Tryz.func62,Tryz.ntmps62
 go_wp2_with (first
  | (at_builtin;have G:=o;clear G;go_must (refine wpList_append_own_at _ rfl (.tmp 16) (.tmp 19) 62 rfl B 98 I _ 3 24 Tryz.underlying62 y i g k rfl (by decide) v d.length (flatA d) rfl (E.out.row.alloc _) ⟨w.heap.size,0,none⟩ 1 1 (akC ⟨3,a,1⟩) rfl rfl (three_lit w ⟨3,a,1⟩ _) (three_cell _) (by unfold maxLen;omega) (by omega) (by simp;omega) ?_);intro l n b u _ f;go_must (obtain ⟨T,R,rfl⟩:=own_shape b;obtain ⟨A,r,F,S,O⟩:=E.out.put (a:=⟨3,a,1⟩) u b f;have D:Hid _:=A;have K:Hid _:=r;have L:Hid _:=F;clear A r F b u f o))
  | (go_at_call 94;go_must (refine (bcount_in a hi _ D.out J).mono ?_);rintro e V ⟨rfl,s⟩;go_must (subst s)))
 go_ret2;exact ⟨rfl,_,D.out,K.out,L.out⟩
end Go.Proofs.YtmdhljoicnommaaGreat
