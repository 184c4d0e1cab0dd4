/-
  F7LA
  F7LLoops
-/
import Derived.Test.YtmdhljoicnommaaGreatME24
import Derived.Test.YtmdhljoicnommaaGreatME22
import Derived.Test.YtmdhljoicnommaaGreatME21
namespace Go.Proofs.YtmdhljoicnommaaGreat
set_option maxHeartbeats 12800000
open Go.RowKit
set_option linter.unusedVariables false
set_option maxRecDepth 20000
theorem rbF {a b:Bool}(h:a=b):Ending.returned (.bool a)=.returned (.bool b):=by rw [h]
theorem ri {a b:Int}(h:a=b):Ending.returned (I4 a)=.returned (I4 b):=by rw [h]
theorem yHm (l:Lp)(p:Int)(w:World):Cl 129 #[lpV l,I4 p] w fun e a=>e=.returned (.bool (qBk l p))/\Bw w a:=by
 obtain ⟨h,t,b⟩:=l
 by_cases hh:h<=p
 ·go_enter Tryz.func129,Tryz.ntmps129;go_wp2;go_ret;exact ⟨rbF (by rw [Bool.eq_iff_iff];simp [qBk,hh]),by go_grown⟩
 ·go_enter Tryz.func129,Tryz.ntmps129;go_wp2;go_ret;exact ⟨rbF (by rw [within_no.2 (by show ¬ (h<=p/\p<=t);omega)]),by go_grown⟩
theorem qSh {l:Lp}{p:Int}{r:Bool}(b:Hid (r=qBk l p))(w:World):Cl 129 #[lpV l,I4 p] w fun e a=>e=.returned (.bool r)/\Bw w a:=by
 rw [b.out];exact yHm l p w
theorem qXo {w a:World}{l:Lp}(h:Below (w.alloc (lpO l)).heap.size (w.alloc (lpO l)) a) :
  a.cell? ⟨w.heap.size,0,none⟩=some (I4 l.h)/\a.cell? ⟨w.heap.size,1,none⟩=some (I4 l.t)/\a.cell? ⟨w.heap.size,2,none⟩=some (I4 l.b):=by
 refine ⟨?_,?_,?_⟩<;>(rw [h.cell (by simp)];simp)
theorem qVi {w a:World}{n:Nat}{x y z:Value}(h:w.cell? ⟨n,0,none⟩=some x/\w.cell? ⟨n,1,none⟩=some y/\w.cell? ⟨n,2,none⟩=some z)(b:Bw w a)(c:n<w.heap.size) :
  a.cell? ⟨n,0,none⟩=some x/\a.cell? ⟨n,1,none⟩=some y/\a.cell? ⟨n,2,none⟩=some z:=by
 rw [b.cell (p:=⟨n,0,none⟩) c,b.cell (p:=⟨n,1,none⟩) c,b.cell (p:=⟨n,2,none⟩) c];exact h
theorem yHr (l:Lp)(p q:Int)(w:World):Cl 128 #[lpV l,I4 p,I4 q] w fun e u=>e=.returned (.bool (qEy l p q))/\Bw w u:=by
 obtain ⟨A,f⟩:∃ r,Hid (r=qBk l p):=⟨_,rfl⟩;obtain ⟨z,d⟩:∃ r,Hid (r=qBk l q):=⟨_,rfl⟩
 have s:Hid (qEy l p q=(!A&&(z&&decide (q≠l.h)))):=by show _=_;rw [f.out,d.out];rfl
 rw [s.out];obtain ⟨h,t,b⟩:=l;go_enter Tryz.func128,Tryz.ntmps128
 go_wp2_with (first
  | (go_at_call 129;(have i:=f;clear i);go_must (refine (qSh f _).mono ?_);rintro e F ⟨rfl,a⟩;go_must (have g:=qAt a;have y:=qNs a;obtain ⟨n,o,k⟩:=qXo (l:=⟨h,t,b⟩) a;clear a f))
  | (go_at_call 129;(have i:=d;clear i);go_must (refine (qSh d _).mono ?_);rintro e B ⟨rfl,c⟩;go_must (obtain ⟨d0,D,E⟩:=qVi ⟨n,o,k⟩ c y;replace g:=g.trans (c.mono g.size);clear d n o k c)))
 all_goals
  go_ret;refine ⟨rbF ?_,g⟩
  (first|(simp_all;done)|(simp_all;rfl)|(simp_all [bne];done))
theorem qYl {l:Lp}{p q:Int}{r:Bool}(b:Hid (r=qEy l p q))(w:World):Cl 128 #[lpV l,I4 p,I4 q] w fun e a=>e=.returned (.bool r)/\Bw w a:=by
 rw [b.out];exact yHr l p q w
theorem yGg {i:In}{f:Int}{l o:Bool}(n:Hid (f=i.far))(k:Hid (l=i.leads))(c:Hid (o=i.on))(w:World):Cl 114 #[qAl i.op i.d i.a i.b i.imm] w fun e g=>e=.returned (.tuple #[I4 f,.bool l,.bool o])/\Bw w g:=by
 rw [n.out,k.out,c.out];exact yRb i.op i.d i.a i.b i.imm w
theorem yTu {i:In}{r:Bool}(l:Hid (r=i.right))(w:World)(n:Nat)(o:n=w.heap.size):Cl 127 #[.slice (some ⟨n,0,none⟩) 1 1] (w.alloc (qBr i.op i.d i.a i.b i.imm)) fun e c=>e=.returned (.bool r)/\Bw w c/\w.heap.size<c.heap.size:=by
 subst o;rw [l.out];refine (qTj w.heap.size 0 1 [i] (w.alloc (qBr i.op i.d i.a i.b i.imm)) (by simp) (by unfold maxLen;omega) (by simp) ?_).mono ?_
 ·intro k g
  obtain rfl:k=0:=by simp at g;exact g
  simp [At]
 ·rintro e c ⟨rfl,f⟩;exact ⟨r2b (by simp),qAt f,qNs f⟩
theorem qXa (b off cap:Nat)(xs:List In)(k:Nat)(w:World)(Q:k<xs.length)(X:xs.length<=64)(A:b<w.heap.size)(n:∀ k,k<xs.length->At w b (off+k*5) (xs.getD k In.nil)) :
  Cl 102 #[.slice (some ⟨b,off,none⟩) xs.length cap,I4 k] w fun e G=>e=.returned (I4 (qIs xs k))/\Bw w G:=by
 obtain ⟨r,HR⟩:∃ r,Hid (r=(nth xs k).right):=⟨_,rfl⟩;obtain ⟨f,HF⟩:∃ f,Hid (f=(nth xs k).far):=⟨_,rfl⟩;obtain ⟨l,HL⟩:∃ l,Hid (l=(nth xs k).leads):=⟨_,rfl⟩;obtain ⟨o,HO⟩:∃ o,Hid (o=(nth xs k).on):=⟨_,rfl⟩;obtain ⟨E,u⟩:∃ E,Hid (E=qIs xs k):=⟨_,rfl⟩
 have y:Hid (E=if r=false then 12 else if (k:Int)+f<0∨(xs.length:Int)<=k+f then 30 else if o=true/\k+1=xs.length then 36 else 0):=by show _=_;rw [u.out,HR.out,HF.out,HO.out];rfl
 rw [<- u.out];have z:=qRe (nth xs k);rw [<- HF.out] at z
 have HA:Hid (∀ g,Bw w g->At g b (off+k*5) (nth xs k)):=fun g L=>(n k Q).below L A
 clear n
 generalize nth xs k=i at HR HF HL HO HA
 obtain ⟨op,d,a,S,R⟩:=i;obtain ⟨F,B,D,N,O⟩:=HA.out w (Below.refl _ _);go_enter Tryz.func102,Tryz.ntmps102
 go_wp2_with (first
  | (go_at_call 127;go_must (refine (yTu HR _ _ (by simp)).mono ?_);rintro e g ⟨rfl,c,V⟩;go_must (obtain ⟨d0,K,M,P,I⟩:=HA.out g c;clear F B D N O))
  | (go_at_call 114;go_must (refine (yGg HF HL HO _).mono ?_);rintro e U ⟨rfl,s⟩;go_must (have T:=c.trans (s.mono c.size);clear s)))
 all_goals
  go_ret;refine ⟨ri ?_,by assumption⟩;have J:=y.out;rw [J];clear y u HA HR HF HL HO d0 K M P I
  cases r<;>cases o<;>simp_all<;>omega
theorem Tryz.infoLoop:(Tryz.prog.info? 186).map (fun i=>(i.zero,i.size,i.bytes))=some (some (.agg #[I4 0,I4 0,I4 0]),3,24):=by kernel_rfl
theorem qKl {i:In}{op d a b c f:Int}{l o:Bool}(hi:Hid (i=⟨op,d,a,b,c⟩))(g:Hid (f=i.far))(r:Hid (l=i.leads))(k:Hid (o=i.on))(w:World):Cl 114 #[qAl op d a b c] w fun e n=>e=.returned (.tuple #[I4 f,.bool l,.bool o])/\Bw w n:=by
 have h:=yGg g r k w;rw [hi.out] at h;exact h
theorem yMw {w wr d:World}{B:Nat}{e:TypeId}{v i:Value}{o:Obj}{a:List Lp}{l:Lp}(g:wr.ownsRow B e 3 v a.length (qHl a))(f:Below B w wr)(s:B<=w.heap.size)(b:d.ownsRow B e 3 i (a.length+1) (qHl a++lpC l))(c:(wr.alloc o).grownBy d v.ownBlock) :
  d.ownsRow B e 3 i (a++[l]).length (qHl (a++[l]))/\Below B w d:=by
 have r:=f.size;refine ⟨?_,(f.alloc (by omega) o).grown c (by simp;omega) (fun k n=>(g.lt k n).1)⟩;rw [<- yMd]
 simpa [qHl] using b
theorem qMp (v:Value)(xs:List In)(w:World)(Y:SeesI w v xs)(hn:xs.length<=64) :
  Cl 103 #[v] w fun e O=>∃ G,e=.returned G/\O.ownsRow w.heap.size 186 3 G (qAk xs).length (qHl (qAk xs))/\Bw w O:=by
 obtain ⟨i0,hi,P,S,V⟩:=info_parts Tryz.infoLoop;obtain ⟨a,cap,rfl,hc,hm,a1,u⟩:=Y;have HC:Hid (xs≠[]->∃ b off,a=some ⟨b,off,none⟩/\b<w.heap.size/\∀ k,k<xs.length->At w b (off+k*5) (xs.getD k In.nil)):=u;clear u;go_enter Tryz.func103,Tryz.ntmps103;go_wp2
 go_loopw [11,3] (fun i v wr=>∃ (k:Nat) (g:List Lp),k<=xs.length/\i=I4 k/\Hid (g=qBt xs k)/\g.length<=k/\wr.ownsRow w.heap.size 186 3 v g.length (qHl g)/\Bw w wr) (fun i _ _=>xs.length-(intOf i).toNat)
 case atStart=>exact ⟨0,[],by omega,rfl,rfl,by simp,World.ownsRow_nil _ _ _ _,Below.refl _ _⟩
 case round =>
  obtain ⟨k,g,hk,rfl,K,a3,c,r⟩:=hrel;have hsz:=r.size
  by_cases hlt:k<xs.length
  ·obtain ⟨b,off,rfl,X,E⟩:=HC.out (fun h=>by rw [h] at hlt;simp at hlt);obtain ⟨N,L,M,T,U⟩:=(E k hlt).below r X
   have a2:b<wr.heap.size:=by omega
   clear E;obtain ⟨⟨op,d,a,bb,n⟩,F⟩:∃ i,Hid (nth xs k=i):=⟨_,rfl⟩;have D:xs.getD k In.nil=⟨op,d,a,bb,n⟩:=F.out;rw [D] at N L M T U;clear D;simp only at N L M T U;obtain ⟨f,I⟩:∃ f,Hid (f=(nth xs k).far):=⟨_,rfl⟩;obtain ⟨l,HL⟩:∃ l,Hid (l=(nth xs k).leads):=⟨_,rfl⟩;obtain ⟨o,HO⟩:∃ o,Hid (o=(nth xs k).on):=⟨_,rfl⟩;have Q:=qRe (nth xs k);rw [<- I.out] at Q
   have J:Hid (qBt xs (k+1)=g++if op=20 then [⟨k+f,k,n⟩] else []):=by
    show _=_
    rw [qBt,K.out];unfold lps qBm;rw [I.out,F.out]
   by_cases h20:op=20
   ·subst h20
    go_wp2_with (first
     | (go_at_call 114;go_must (refine (qKl F I HL HO _).mono ?_);rintro e w1 ⟨rfl,y⟩;go_must (have B:Bw w w1:=r.trans ((qAt y).mono hsz);have A:=qCn (qCn c ((Below.refl _ _).alloc (Nat.le_refl _) _) (Nat.le_refl _)) y (Nat.le_refl _);obtain ⟨e0,e1,e2,e3,e4⟩:=qDn y;have a0:=B.size;clear y c))
     | (at_builtin;go_must (refine wpList_append_own _ rfl _ _ 143 rfl w.heap.size 186 i0 _ 3 24 Tryz.underlying143 hi P S V rfl (by decide) _ _ _ rfl (A.alloc _) ⟨_,0,none⟩ 1 1 (lpC ⟨k+f,k,n⟩) rfl rfl (yMj _ _ _ _ _ _ rfl) (yRc _ _ _) (by unfold maxLen;omega) (by omega) (by simp;omega) ?_);intro G w2 s z _;have R:=yMw (l:=⟨k+f,k,n⟩) A B (Nat.le_refl _) s z;clear s z))
    go_roundw
    case rel=>exact ⟨k+1,g++[⟨k+f,k,n⟩],by omega,by go_num,by show _=_;rw [J.out];rfl,by simp;omega,R.1,R.2⟩
    case measure=>simp [intOf];omega
   ·have Z:(op==20)=false:=by simpa using h20
    go_wp2
    go_roundw
    case rel=>exact ⟨k+1,g,by omega,by go_num,by show _=_;rw [J.out,if_neg h20,List.append_nil],by omega,c.alloc _,r.alloc (by omega) _⟩
    case measure=>simp [intOf];omega
  ·obtain rfl:k=xs.length:=by omega
   go_wp2;go_ret;refine ⟨_,rfl,?_,r⟩;rw [show qAk xs=g from K.out.symm];exact c
end Go.Proofs.YtmdhljoicnommaaGreat
