/-
  F7LA
  F7LLoops
-/
import Derived.Test.YtmdhljoicnommaaGreatMS24
import Derived.Test.YtmdhljoicnommaaGreatMS22
import Derived.Test.YtmdhljoicnommaaGreatMS21
namespace Go.Proofs.YtmdhljoicnommaaGreat
set_option maxHeartbeats 12800000
open Go.RowKit
set_option linter.unusedVariables false
set_option maxRecDepth 20000
theorem rbF {a b:Bool}(h:a=b):Ending.returned (.bool a)=.returned (.bool b):=by rw [h]
theorem ri {a b:Int}(h:a=b):Ending.returned (I4 a)=.returned (I4 b):=by rw [h]
theorem within_any (l:Lp)(p:Int)(w:World):Cl 129 #[lpV l,I4 p] w fun e a=>e=.returned (.bool (inLpB l p))/\Bw w a:=by
 obtain ⟨h,t,b⟩:=l
 by_cases hh:h<=p
 ·go_enter Tryz.func129,Tryz.ntmps129;go_wp2;go_ret;exact ⟨rbF (by rw [Bool.eq_iff_iff];simp [inLpB,hh]),by go_grown⟩
 ·go_enter Tryz.func129,Tryz.ntmps129;go_wp2;go_ret;exact ⟨rbF (by rw [within_no.2 (by show ¬ (h<=p/\p<=t);omega)]),by go_grown⟩
theorem within_as {l:Lp}{p:Int}{r:Bool}(b:Hid (r=inLpB l p))(w:World):Cl 129 #[lpV l,I4 p] w fun e a=>e=.returned (.bool r)/\Bw w a:=by
 rw [b.out];exact within_any l p w
theorem boxL_cell {w a:World}{l:Lp}(h:Below (w.alloc (lpO l)).heap.size (w.alloc (lpO l)) a) :
  a.cell? ⟨w.heap.size,0,none⟩=some (I4 l.h)/\a.cell? ⟨w.heap.size,1,none⟩=some (I4 l.t)/\a.cell? ⟨w.heap.size,2,none⟩=some (I4 l.b):=by
 refine ⟨?_,?_,?_⟩<;>(rw [h.cell (by simp)];simp)
theorem cells_next {w a:World}{n:Nat}{x y z:Value}(h:w.cell? ⟨n,0,none⟩=some x/\w.cell? ⟨n,1,none⟩=some y/\w.cell? ⟨n,2,none⟩=some z)(c:Bw w a)(b:n<w.heap.size) :
  a.cell? ⟨n,0,none⟩=some x/\a.cell? ⟨n,1,none⟩=some y/\a.cell? ⟨n,2,none⟩=some z:=by
 rw [c.cell (p:=⟨n,0,none⟩) b,c.cell (p:=⟨n,1,none⟩) b,c.cell (p:=⟨n,2,none⟩) b];exact h
theorem enters_any (l:Lp)(p q:Int)(w:World):Cl 128 #[lpV l,I4 p,I4 q] w fun e A=>e=.returned (.bool (entersB l p q))/\Bw w A:=by
 obtain ⟨y,f⟩:∃ r,Hid (r=inLpB l p):=⟨_,rfl⟩;obtain ⟨u,d⟩:∃ r,Hid (r=inLpB l q):=⟨_,rfl⟩
 have s:Hid (entersB l p q=(!y&&(u&&decide (q≠l.h)))):=by show _=_;rw [f.out,d.out];rfl
 rw [s.out];obtain ⟨h,t,b⟩:=l;go_enter Tryz.func128,Tryz.ntmps128
 go_wp2_with (first
  | (go_at_call 129;(have i:=f;clear i);go_must (refine (within_as f _).mono ?_);rintro e F ⟨rfl,a⟩;go_must (have g:=qAl a;have z:=box_size a;obtain ⟨k,o,n⟩:=boxL_cell (l:=⟨h,t,b⟩) a;clear a f))
  | (go_at_call 129;(have i:=d;clear i);go_must (refine (within_as d _).mono ?_);rintro e D ⟨rfl,c⟩;go_must (obtain ⟨d0,B,E⟩:=cells_next ⟨k,o,n⟩ c z;replace g:=g.trans (c.mono g.size);clear d k o n c)))
 all_goals
  go_ret;refine ⟨rbF ?_,g⟩
  (first|(simp_all;done)|(simp_all;rfl)|(simp_all [bne];done))
theorem enters_as {l:Lp}{p q:Int}{r:Bool}(b:Hid (r=entersB l p q))(w:World):Cl 128 #[lpV l,I4 p,I4 q] w fun e a=>e=.returned (.bool r)/\Bw w a:=by
 rw [b.out];exact enters_any l p q w
theorem goes_as {i:In}{f:Int}{l o:Bool}(n:Hid (f=i.far))(g:Hid (l=i.leads))(c:Hid (o=i.on))(w:World):Cl 114 #[instV i.op i.d i.a i.b i.imm] w fun e k=>e=.returned (.tuple #[I4 f,.bool l,.bool o])/\Bw w k:=by
 rw [n.out,g.out,c.out];exact ogoes_any i.op i.d i.a i.b i.imm w
theorem right_as {i:In}{r:Bool}(l:Hid (r=i.right))(w:World)(n:Nat)(o:n=w.heap.size):Cl 127 #[.slice (some ⟨n,0,none⟩) 1 1] (w.alloc (instO i.op i.d i.a i.b i.imm)) fun e c=>e=.returned (.bool r)/\Bw w c/\w.heap.size<c.heap.size:=by
 subst o;rw [l.out];refine (rights_some w.heap.size 0 1 [i] (w.alloc (instO i.op i.d i.a i.b i.imm)) (by simp) (by unfold maxLen;omega) (by simp) ?_).mono ?_
 ·intro k g
  obtain rfl:k=0:=by simp at g;exact g
  simp [At]
 ·rintro e c ⟨rfl,f⟩;exact ⟨r2b (by simp),qAl f,box_size f⟩
theorem place_any (b off cap:Nat)(xs:List In)(k:Nat)(w:World)(J:k<xs.length)(S:xs.length<=64)(M:b<w.heap.size)(n:∀ k,k<xs.length->At w b (off+k*5) (xs.getD k In.nil)) :
  Cl 102 #[.slice (some ⟨b,off,none⟩) xs.length cap,I4 k] w fun e Q=>e=.returned (I4 (placeE xs k))/\Bw w Q:=by
 obtain ⟨r,HR⟩:∃ r,Hid (r=(nth xs k).right):=⟨_,rfl⟩;obtain ⟨f,HF⟩:∃ f,Hid (f=(nth xs k).far):=⟨_,rfl⟩;obtain ⟨l,HL⟩:∃ l,Hid (l=(nth xs k).leads):=⟨_,rfl⟩;obtain ⟨o,HO⟩:∃ o,Hid (o=(nth xs k).on):=⟨_,rfl⟩;obtain ⟨E,u⟩:∃ E,Hid (E=placeE xs k):=⟨_,rfl⟩
 have z:Hid (E=if r=false then 12 else if (k:Int)+f<0∨(xs.length:Int)<=k+f then 30 else if o=true/\k+1=xs.length then 36 else 0):=by show _=_;rw [u.out,HR.out,HF.out,HO.out];rfl
 rw [<- u.out];have y:=far_bd (nth xs k);rw [<- HF.out] at y
 have HA:Hid (∀ g,Bw w g->At g b (off+k*5) (nth xs k)):=fun g K=>(n k J).below K M
 clear n
 generalize nth xs k=i at HR HF HL HO HA
 obtain ⟨op,d,a,T,R⟩:=i;obtain ⟨B,G,D,A,P⟩:=HA.out w (Below.refl _ _);go_enter Tryz.func102,Tryz.ntmps102
 go_wp2_with (first
  | (go_at_call 127;go_must (refine (right_as HR _ _ (by simp)).mono ?_);rintro e g ⟨rfl,c,U⟩;go_must (obtain ⟨d0,N,O,F,I⟩:=HA.out g c;clear B G D A P))
  | (go_at_call 114;go_must (refine (goes_as HF HL HO _).mono ?_);rintro e X ⟨rfl,s⟩;go_must (have V:=c.trans (s.mono c.size);clear s)))
 all_goals
  go_ret;refine ⟨ri ?_,by assumption⟩;have L:=z.out;rw [L];clear z u HA HR HF HL HO d0 N O F I
  cases r<;>cases o<;>simp_all<;>omega
theorem Tryz.infoLoop:(Tryz.prog.info? 186).map (fun i=>(i.zero,i.size,i.bytes))=some (some (.agg #[I4 0,I4 0,I4 0]),3,24):=by kernel_rfl
theorem goes_one {i:In}{op d a b c f:Int}{l o:Bool}(hi:Hid (i=⟨op,d,a,b,c⟩))(n:Hid (f=i.far))(g:Hid (l=i.leads))(k:Hid (o=i.on))(w:World):Cl 114 #[instV op d a b c] w fun e r=>e=.returned (.tuple #[I4 f,.bool l,.bool o])/\Bw w r:=by
 have h:=goes_as n g k w;rw [hi.out] at h;exact h
theorem step_loop {w wr d:World}{B:Nat}{e:TypeId}{v i:Value}{o:Obj}{a:List Lp}{l:Lp}(g:wr.ownsRow B e 3 v a.length (flatL a))(f:Below B w wr)(s:B<=w.heap.size)(c:d.ownsRow B e 3 i (a.length+1) (flatL a++lpC l))(b:(wr.alloc o).grownBy d v.ownBlock) :
  d.ownsRow B e 3 i (a++[l]).length (flatL (a++[l]))/\Below B w d:=by
 have r:=f.size;refine ⟨?_,(f.alloc (by omega) o).grown b (by simp;omega) (fun k n=>(g.lt k n).1)⟩;rw [<- flatL_app]
 simpa [flatL] using c
theorem loops_any (v:Value)(xs:List In)(w:World)(hs:SeesI w v xs)(hn:xs.length<=64) :
  Cl 103 #[v] w fun e V=>∃ G,e=.returned G/\V.ownsRow w.heap.size 186 3 G (loopsL xs).length (flatL (loopsL xs))/\Bw w V:=by
 obtain ⟨Z,hi,J,N,T⟩:=info_parts Tryz.infoLoop;obtain ⟨a,cap,rfl,hc,hm,a2,z⟩:=hs;have HC:Hid (xs≠[]->∃ b off,a=some ⟨b,off,none⟩/\b<w.heap.size/\∀ k,k<xs.length->At w b (off+k*5) (xs.getD k In.nil)):=z;clear z;go_enter Tryz.func103,Tryz.ntmps103;go_wp2
 go_loopw [11,3] (fun i v wr=>∃ (k:Nat) (g:List Lp),k<=xs.length/\i=I4 k/\Hid (g=loopsU xs k)/\g.length<=k/\wr.ownsRow w.heap.size 186 3 v g.length (flatL g)/\Bw w wr) (fun i _ _=>xs.length-(intOf i).toNat)
 case atStart=>exact ⟨0,[],by omega,rfl,rfl,by simp,World.ownsRow_nil _ _ _ _,Below.refl _ _⟩
 case round =>
  obtain ⟨k,g,hk,rfl,Q,a1,c,n⟩:=hrel;have hsz:=n.size
  by_cases hlt:k<xs.length
  ·obtain ⟨b,off,rfl,hb,D⟩:=HC.out (fun h=>by rw [h] at hlt;simp at hlt);obtain ⟨L,O,M,K,U⟩:=(D k hlt).below n hb
   have a3:b<wr.heap.size:=by omega
   clear D;obtain ⟨⟨op,d,a,Y,r⟩,I⟩:∃ i,Hid (nth xs k=i):=⟨_,rfl⟩;have E:xs.getD k In.nil=⟨op,d,a,Y,r⟩:=I.out;rw [E] at L O M K U;clear E;simp only at L O M K U;obtain ⟨f,F⟩:∃ f,Hid (f=(nth xs k).far):=⟨_,rfl⟩;obtain ⟨l,HL⟩:∃ l,Hid (l=(nth xs k).leads):=⟨_,rfl⟩;obtain ⟨o,HO⟩:∃ o,Hid (o=(nth xs k).on):=⟨_,rfl⟩;have P:=far_bd (nth xs k);rw [<- F.out] at P
   have S:Hid (loopsU xs (k+1)=g++if op=20 then [⟨k+f,k,r⟩] else []):=by
    show _=_
    rw [loopsU,Q.out];unfold lps lpAt;rw [F.out,I.out]
   by_cases h20:op=20
   ·subst h20
    go_wp2_with (first
     | (go_at_call 114;go_must (refine (goes_one I F HL HO _).mono ?_);rintro e w1 ⟨rfl,s⟩;go_must (have B:Bw w w1:=n.trans ((qAl s).mono hsz);have u:=qBa (qBa c ((Below.refl _ _).alloc (Nat.le_refl _) _) (Nat.le_refl _)) s (Nat.le_refl _);obtain ⟨e0,e1,e2,e3,e4⟩:=qBq s;have a0:=B.size;clear s c))
     | (at_builtin;go_must (refine wpList_append_own _ rfl _ _ 143 rfl w.heap.size 186 Z _ 3 24 Tryz.underlying143 hi J N T rfl (by decide) _ _ _ rfl (u.alloc _) ⟨_,0,none⟩ 1 1 (lpC ⟨k+f,k,r⟩) rfl rfl (three_new _ _ _ _ _ _ rfl) (three_one _ _ _) (by unfold maxLen;omega) (by omega) (by simp;omega) ?_);intro G w2 y A _;have R:=step_loop (l:=⟨k+f,k,r⟩) u B (Nat.le_refl _) y A;clear y A))
    go_roundw
    case rel=>exact ⟨k+1,g++[⟨k+f,k,r⟩],by omega,by go_num,by show _=_;rw [S.out];rfl,by simp;omega,R.1,R.2⟩
    case measure=>simp [intOf];omega
   ·have X:(op==20)=false:=by simpa using h20
    go_wp2
    go_roundw
    case rel=>exact ⟨k+1,g,by omega,by go_num,by show _=_;rw [S.out,if_neg h20,List.append_nil],by omega,c.alloc _,n.alloc (by omega) _⟩
    case measure=>simp [intOf];omega
  ·obtain rfl:k=xs.length:=by omega
   go_wp2;go_ret;refine ⟨_,rfl,?_,n⟩;rw [show loopsL xs=g from Q.out.symm];exact c
end Go.Proofs.YtmdhljoicnommaaGreat
