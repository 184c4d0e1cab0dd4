/-
  S6LAsk
  J8Small
  S6LAll
  J8Value
-/
import Derived.Test.YtmdhljoicnommaaGreatMS10
import Derived.Laws.Externs
namespace Go.Proofs.YtmdhljoicnommaaGreat
set_option maxHeartbeats 12800000
open Go.RowKit
set_option linter.unusedVariables false
set_option maxRecDepth 100000
set_option maxRecDepth 20000
theorem qAm {d:Func}{p:Tmp}{c:TypeId}(h:d.results=#[.cell p c])(b:Array Value)(P:Program)(w:World) :
  (results d b).run P w=((asAddr (b.getD p undef)).run P w).andThen fun a f=>(loadVar c a).run P f:=by
 simp only [results,h]
 simp [Sem.run_bind,Result.andThen]
theorem add64_any (x y:Int)(a:0<=x)(b:0<=y)(w:World):(callFunc 172 #[U8 x,U8 y,U8 0]).run Tryz.prog w =
  .ok (.value (.tuple #[U8 ((x+y)%18446744073709551616),U8 ((x+y) / 18446744073709551616)])) w:=by
 rw [run_callFunc_extern Tryz.func172 (by kernel_rfl) (by kernel_rfl) (by kernel_rfl) (e:=add64Entry) (by kernel_rfl),run_add64 x y 0 a b (Int.le_refl 0) (by decide),Int.add_zero]
 rfl
theorem lright_any (a A:Int)(w:World):Cl 151 #[.agg #[U8 a,U8 A]] w fun e b=>e=.returned (.bool (decide (a<=A)))/\w.alloc (spO a A)=b:=by
 go_enter Tryz.func151,Tryz.ntmps151;go_wp2;go_ret;exact ⟨rfl,rfl⟩
theorem qCz (n:Int)(w:World):Cl 134 #[U8 n] w fun e b=>e=.returned (.agg #[U8 n,U8 n])/\Bw w b:=by
 go_enter Tryz.func134,Tryz.ntmps134;go_wp2;refine bodyPost_ret (v:=.agg #[U8 n,U8 n]) ?_ rfl ⟨rfl,by go_grown⟩;rw [qAm rfl]
 simp [asAddr,Result.andThen]
 rw [qAc (a:=n) (A:=n)]
 all_goals go_cell
theorem qBw (w:World):Cl 133 #[] w fun e b=>e=.returned (.agg #[U8 0,U8 18446744073709551615])/\Bw w b:=by
 go_enter Tryz.func133,Tryz.ntmps133;go_wp2;refine bodyPost_ret (v:=.agg #[U8 0,U8 18446744073709551615]) ?_ rfl ⟨rfl,by go_grown⟩;rw [qAm rfl]
 simp [asAddr,Result.andThen]
 rw [qAc (a:=0) (A:=18446744073709551615)]
 all_goals go_cell
theorem lhas_any (a A n:Int)(w:World):Cl 152 #[.agg #[U8 a,U8 A],U8 n] w fun e b=>e=.returned (.bool (hasN a A n))/\w.alloc (spO a A)=b:=by
 by_cases h:a<=n
 ·go_enter Tryz.func152,Tryz.ntmps152;go_wp2;go_ret;exact ⟨rb (by rw [Bool.eq_iff_iff];simp [hasN];omega),rfl⟩
 ·go_enter Tryz.func152,Tryz.ntmps152;go_wp2;go_ret;exact ⟨rb (by rw [Bool.eq_iff_iff];simp [hasN];omega),rfl⟩
theorem lwithin_any (a A b B:Int)(w:World):Cl 135 #[.agg #[U8 a,U8 A],.agg #[U8 b,U8 B]] w fun e d=>e=.returned (.bool (withinB a A b B))/\Bw w d:=by
 obtain ⟨o,f⟩:∃ r,Hid (r=decide (a<=A)):=⟨_,rfl⟩;obtain ⟨n,i⟩:∃ r,Hid (r=hasN b B a):=⟨_,rfl⟩;obtain ⟨l,g⟩:∃ r,Hid (r=hasN b B A):=⟨_,rfl⟩
 have y:Hid (withinB a A b B=(o&&n&&l)):=by
  show _=_
  rw [f.out,i.out,g.out,Bool.eq_iff_iff]
  simp [withinB,hasN]
  omega
 have u:=f;have s:=i;have k:=g
 cases o<;>cases n<;>cases l
 all_goals go_enter Tryz.func135,Tryz.ntmps135
 all_goals go_wp2_with (first
  | (go_at_call 151;have c:=u;clear c;go_must (refine (lright_any a A _).mono ?_);rintro e d ⟨rfl,rfl⟩;rw [<- f.out];clear u)
  | (go_at_call 152;have c:=s;clear c;go_must (refine (lhas_any b B a _).mono ?_);rintro e d ⟨rfl,rfl⟩;rw [<- i.out];clear s)
  | (go_at_call 152;have c:=k;clear c;go_must (refine (lhas_any b B A _).mono ?_);rintro e d ⟨rfl,rfl⟩;rw [<- g.out];clear k))
 all_goals go_ret
 all_goals exact ⟨rb (by rw [y.out];rfl),by go_grown⟩
abbrev topN:Int:=18446744073709551615
abbrev numT (hi:Int):Ty:=⟨1,0,hi,0⟩
abbrev handleT:Ty:=⟨2,0,0,0⟩
def argsL (h:Int):List Ty :=
 if h=0∨h=1∨h=3 then [handleT,numT topN] else if h=2∨h=4 then [handleT,numT topN,numT topN] else if h=5 then [numT 15] else if h=6 then [numT topN] else []
def resL (h:Int):Ty×Bool :=
 if h=0∨h=4∨h=5 then (numT topN,true) else if h=1∨h=2∨h=3 then (numT 1,true) else if h=6 then (numT 0,true) else (Ty.nil,false)
theorem qDf (h:Int):h=0∨h=1∨h=2∨h=3∨h=4∨h=5∨h=6∨(¬ h=0/\¬ h=1/\¬ h=2/\¬ h=3/\¬ h=4/\¬ h=5/\¬ h=6):=by omega
theorem args_none {h:Int}(c:¬ h=0/\¬ h=1/\¬ h=2/\¬ h=3/\¬ h=4/\¬ h=5/\¬ h=6):argsL h=[]:=by
 unfold argsL;rw [if_neg (by omega),if_neg (by omega),if_neg (by omega),if_neg (by omega)]
theorem res_none {h:Int}(c:¬ h=0/\¬ h=1/\¬ h=2/\¬ h=3/\¬ h=4/\¬ h=5/\¬ h=6):resL h=(Ty.nil,false):=by
 unfold resL;rw [if_neg (by omega),if_neg (by omega),if_neg (by omega)]
theorem qCh (a A:Int)(w:World):Cl 140 #[.agg #[U8 a,U8 A]] w fun e b=>e=.returned (tyV ⟨1,a,A,0⟩)/\Bw w b:=by
 go_enter Tryz.func140,Tryz.ntmps140;go_wp2;refine bodyPost_ret (v:=tyV ⟨1,a,A,0⟩) ?_ rfl ⟨rfl,by go_grown⟩;rw [qAm rfl]
 simp [asAddr,Result.andThen]
 rw [qCm (k:=1) (lo:=a) (hi:=A) (m:=0)]
 refine ⟨?_,?_,?_,?_⟩<;>go_cell
theorem qCn (hi:Int)(w:World):Cl 124 #[U8 hi] w fun e a=>e=.returned (tyV (numT hi))/\Bw w a:=by
 go_enter Tryz.func124,Tryz.ntmps124;go_wp2;refine bodyPost_ret (v:=tyV (numT hi)) ?_ rfl ⟨rfl,by go_grown⟩;rw [qAm rfl]
 simp [asAddr,Result.andThen]
 rw [qCm (k:=1) (lo:=0) (hi:=hi) (m:=0)]
 refine ⟨?_,?_,?_,?_⟩<;>go_cell
theorem own_nilT (w:World)(base:Nat)(e:TypeId):w.ownsRow base e 4 (.slice none 0 0) ([]:List Ty).length (flatT []):=⟨rfl,.inl ⟨rfl,rfl⟩⟩
theorem Tryz.infoType8:(Tryz.prog.info? 153).map (fun i=>(i.zero,i.size,i.bytes))=some (some (tyV Ty.nil),4,32):=by kernel_rfl
theorem qCb:∃ i,Tryz.prog.info? 153=some i/\i.zero=some (tyV Ty.nil)/\i.size=4/\i.bytes=32:=by
 have h:=Tryz.infoType8;simp only [Option.map_eq_some_iff,Prod.mk.injEq] at h;obtain ⟨i,d,b,c,a⟩:=h;exact ⟨i,d,b,c,a⟩
theorem keyed_any (v:Value)(xs:List Ty)(w:World)(i:SeesT w v xs)(G:xs.length<=1048576):Cl 139 #[v] w fun e y=>∃ u,e=.returned u/\y.ownsRow w.heap.size 153 4 u (handleT :: numT topN :: xs).length (flatT (handleT :: numT topN :: xs))/\Bw w y:=by
 obtain ⟨z,hi,l,r,s⟩:=qCb;have B:Hid (SeesT w v xs):=i;obtain ⟨a,cap,rfl⟩:=i.shape;obtain ⟨n,J⟩:∃ n,Hid (xs.length=n):=⟨_,rfl⟩;clear i;go_enter Tryz.func139,Tryz.ntmps139
 go_wp2_with (first
  | (go_at_call 133;go_must (refine (qBw _).mono ?_);rintro e K ⟨rfl,b⟩)
  | (go_at_call 140;go_must (refine (qCh _ _ _).mono ?_);rintro e A ⟨rfl,g⟩;go_must (have c:=b.trans (g.mono b.size);have o:=c.size;clear b g))
  | (at_builtin;go_must (refine qAw rfl (.tmp 6) (.tmp 7) 123 rfl w.heap.size 153 z (tyV Ty.nil) Tryz.underlying123 hi l r s rfl _ [handleT,numT topN] rfl (ownT_lit _ _ _ _ _ _ _ rfl o rfl rfl (by simp)) _ xs rfl ((B.out.below c).below ((Below.refl _ _).alloc (Nat.le_refl _) _)) (by unfold maxLen;simp;omega) (by simp;omega) (by simp;omega) ?_);intro I E d f;go_must (have k:Bw w E:=(c.alloc o _).grown f (by simp;omega) (fun j D=>by (have F:A.heap.size=j:=Option.some.inj D);omega);clear f)))
 go_ret;exact ⟨_,rfl,d,k⟩
theorem qAx {w:World}{b base:Nat}{e:TypeId}{size:Nat}{v:Value}{n:Nat}{xs:List Value}(h:w.ownsRow base e size v n xs)(f:b<=base):w.ownsRow b e size v n xs:=by
 obtain ⟨c,k|⟨g,cap,a,rfl,d,i⟩⟩:=h
 ·exact ⟨c,.inl k⟩
 ·exact ⟨c,.inr ⟨g,cap,a,rfl,Nat.le_trans f d,i⟩⟩
theorem args_any (h:Int)(w:World):Cl 117 #[I4 h] w fun e r=>∃ u,e=.returned u/\r.ownsRow w.heap.size 153 4 u (argsL h).length (flatT (argsL h))/\Bw w r:=by
 rcases qDf h with rfl|rfl|rfl|rfl|rfl|rfl|rfl|c
 ·go_enter Tryz.func117,Tryz.ntmps117
  go_wp2_with (first
  | (go_at_call 139;go_must (refine (keyed_any _ [] _ (SeesT.nil _) (by simp)).mono ?_);rintro e k ⟨o,rfl,d,a⟩))
  go_ret;exact ⟨_,rfl,d,a⟩
 ·go_enter Tryz.func117,Tryz.ntmps117
  go_wp2_with (first
  | (go_at_call 139;go_must (refine (keyed_any _ [] _ (SeesT.nil _) (by simp)).mono ?_);rintro e k ⟨o,rfl,d,a⟩))
  go_ret;exact ⟨_,rfl,d,a⟩
 ·go_enter Tryz.func117,Tryz.ntmps117
  go_wp2_with (first
  | (go_at_call 133;go_must (refine (qBw _).mono ?_);rintro e k ⟨rfl,a⟩)
  | (go_at_call 140;go_must (refine (qCh _ _ _).mono ?_);rintro e n ⟨rfl,b⟩;go_must (have f:=a.trans (b.mono a.size);have g:=f.size;clear a b))
  | (go_at_call 139;go_must (refine (keyed_any _ [numT topN] _ (SeesT.lit _ _ _ _ _ rfl rfl (by simp)) (by simp)).mono ?_);rintro e z ⟨s,rfl,i,l⟩))
  go_ret;exact ⟨_,rfl,qAx i (by simp;omega),(f.alloc g _).trans (l.mono (by simp;omega))⟩
 ·go_enter Tryz.func117,Tryz.ntmps117
  go_wp2_with (first
  | (go_at_call 139;go_must (refine (keyed_any _ [] _ (SeesT.nil _) (by simp)).mono ?_);rintro e k ⟨o,rfl,d,a⟩))
  go_ret;exact ⟨_,rfl,d,a⟩
 ·go_enter Tryz.func117,Tryz.ntmps117
  go_wp2_with (first
  | (go_at_call 133;go_must (refine (qBw _).mono ?_);rintro e k ⟨rfl,a⟩)
  | (go_at_call 140;go_must (refine (qCh _ _ _).mono ?_);rintro e n ⟨rfl,b⟩;go_must (have f:=a.trans (b.mono a.size);have g:=f.size;clear a b))
  | (go_at_call 139;go_must (refine (keyed_any _ [numT topN] _ (SeesT.lit _ _ _ _ _ rfl rfl (by simp)) (by simp)).mono ?_);rintro e z ⟨s,rfl,i,l⟩))
  go_ret;exact ⟨_,rfl,qAx i (by simp;omega),(f.alloc g _).trans (l.mono (by simp;omega))⟩
 ·go_enter Tryz.func117,Tryz.ntmps117
  go_wp2_with (first
  | (go_at_call 140;go_must (refine (qCh _ _ _).mono ?_);rintro e n ⟨rfl,b⟩;go_must (have g:=b.size)))
  go_ret;exact ⟨_,rfl,ownT_lit _ _ _ [numT 15] _ _ _ rfl g rfl rfl (by simp),b.alloc g _⟩
 ·go_enter Tryz.func117,Tryz.ntmps117
  go_wp2_with (first
  | (go_at_call 133;go_must (refine (qBw _).mono ?_);rintro e k ⟨rfl,a⟩)
  | (go_at_call 140;go_must (refine (qCh _ _ _).mono ?_);rintro e n ⟨rfl,b⟩;go_must (have f:=a.trans (b.mono a.size);have g:=f.size;clear a b)))
  go_ret;exact ⟨_,rfl,ownT_lit _ _ _ [numT topN] _ _ _ rfl g rfl rfl (by simp),f.alloc g _⟩
 ·have y:Hid (argsL h=[]):=args_none c;obtain ⟨B,E,D,A,G,F,I⟩:=c;go_enter Tryz.func117,Tryz.ntmps117;go_wp2;go_ret;rw [y.out];exact ⟨_,rfl,own_nilT _ _ _,Below.refl _ _⟩
theorem rargs_any (h:Int)(w:World):Cl 88 #[I4 h] w fun e y=>∃ u,e=.returned u/\y.ownsRow w.heap.size 153 4 u (argsL h).length (flatT (argsL h))/\Bw w y:=by
 rcases qDf h with rfl|rfl|rfl|rfl|rfl|rfl|rfl|c
 ·have d:=Below.refl w.heap.size w;have g:Hid True:=trivial;go_enter Tryz.func88,Tryz.ntmps88
  go_wp2_with (first
  | (go_at_call 124;(have i:=g;clear i);go_must (refine (qCn _ _).mono ?_);rintro e k ⟨rfl,b⟩;go_must (have a:Bw w k:=d.trans (b.mono d.size);have f:=a.size;clear b g)))
  go_ret;exact ⟨_,rfl,ownT_lit _ _ _ [handleT,numT topN] _ _ _ rfl f rfl rfl (by simp),a.alloc f _⟩
 ·have d:=Below.refl w.heap.size w;have g:Hid True:=trivial;go_enter Tryz.func88,Tryz.ntmps88
  go_wp2_with (first
  | (go_at_call 124;(have i:=g;clear i);go_must (refine (qCn _ _).mono ?_);rintro e k ⟨rfl,b⟩;go_must (have a:Bw w k:=d.trans (b.mono d.size);have f:=a.size;clear b g)))
  go_ret;exact ⟨_,rfl,ownT_lit _ _ _ [handleT,numT topN] _ _ _ rfl f rfl rfl (by simp),a.alloc f _⟩
 ·have d:=Below.refl w.heap.size w;have g:Hid True:=trivial;have r:Hid True:=trivial;go_enter Tryz.func88,Tryz.ntmps88
  go_wp2_with (first
  | (go_at_call 124;(have i:=g;clear i);go_must (refine (qCn _ _).mono ?_);rintro e k ⟨rfl,b⟩;go_must (have a:Bw w k:=d.trans (b.mono d.size);have f:=a.size;clear b g))
  | (go_at_call 124;(have i:=r;clear i);go_must (refine (qCn _ _).mono ?_);rintro e s ⟨rfl,n⟩;go_must (have l:Bw w s:=a.trans (n.mono a.size);have o:=l.size;clear n r)))
  go_ret;exact ⟨_,rfl,ownT_lit _ _ _ [handleT,numT topN,numT topN] _ _ _ rfl o rfl rfl (by simp),l.alloc o _⟩
 ·have d:=Below.refl w.heap.size w;have g:Hid True:=trivial;go_enter Tryz.func88,Tryz.ntmps88
  go_wp2_with (first
  | (go_at_call 124;(have i:=g;clear i);go_must (refine (qCn _ _).mono ?_);rintro e k ⟨rfl,b⟩;go_must (have a:Bw w k:=d.trans (b.mono d.size);have f:=a.size;clear b g)))
  go_ret;exact ⟨_,rfl,ownT_lit _ _ _ [handleT,numT topN] _ _ _ rfl f rfl rfl (by simp),a.alloc f _⟩
 ·have d:=Below.refl w.heap.size w;have g:Hid True:=trivial;have r:Hid True:=trivial;go_enter Tryz.func88,Tryz.ntmps88
  go_wp2_with (first
  | (go_at_call 124;(have i:=g;clear i);go_must (refine (qCn _ _).mono ?_);rintro e k ⟨rfl,b⟩;go_must (have a:Bw w k:=d.trans (b.mono d.size);have f:=a.size;clear b g))
  | (go_at_call 124;(have i:=r;clear i);go_must (refine (qCn _ _).mono ?_);rintro e s ⟨rfl,n⟩;go_must (have l:Bw w s:=a.trans (n.mono a.size);have o:=l.size;clear n r)))
  go_ret;exact ⟨_,rfl,ownT_lit _ _ _ [handleT,numT topN,numT topN] _ _ _ rfl o rfl rfl (by simp),l.alloc o _⟩
 ·have d:=Below.refl w.heap.size w;have g:Hid True:=trivial;go_enter Tryz.func88,Tryz.ntmps88
  go_wp2_with (first
  | (go_at_call 124;(have i:=g;clear i);go_must (refine (qCn _ _).mono ?_);rintro e k ⟨rfl,b⟩;go_must (have a:Bw w k:=d.trans (b.mono d.size);have f:=a.size;clear b g)))
  go_ret;exact ⟨_,rfl,ownT_lit _ _ _ [numT 15] _ _ _ rfl f rfl rfl (by simp),a.alloc f _⟩
 ·have d:=Below.refl w.heap.size w;have g:Hid True:=trivial;go_enter Tryz.func88,Tryz.ntmps88
  go_wp2_with (first
  | (go_at_call 124;(have i:=g;clear i);go_must (refine (qCn _ _).mono ?_);rintro e k ⟨rfl,b⟩;go_must (have a:Bw w k:=d.trans (b.mono d.size);have f:=a.size;clear b g)))
  go_ret;exact ⟨_,rfl,ownT_lit _ _ _ [numT topN] _ _ _ rfl f rfl rfl (by simp),a.alloc f _⟩
 ·have z:Hid (argsL h=[]):=args_none c;obtain ⟨B,E,D,A,G,F,I⟩:=c;go_enter Tryz.func88,Tryz.ntmps88;go_wp2;go_ret;rw [z.out];exact ⟨_,rfl,own_nilT _ _ _,Below.refl _ _⟩
def oneS (s:Int×Int):Bool:=s.1==s.2
theorem all_takeS {p:Int×Int->Bool}{ss:List (Int×Int)}{k:Nat}(a:k<ss.length):(ss.take (k+1)).all p=((ss.take k).all p&&p (ss.getD k (0,0))):=by
 have e:ss.getD k (0,0)=ss[k]:=by simp [a]
 rw [e,List.take_succ_eq_append_getElem a,List.all_append]
 simp
theorem all_fails {p:Int×Int->Bool}{ss:List (Int×Int)}{k:Nat}(a:k<ss.length)(h:p (ss.getD k (0,0))=false):ss.all p=false:=by
 have e:ss.getD k (0,0)=ss[k]:=by simp [a]
 rw [e] at h;rw [List.all_eq_false];exact ⟨ss[k],List.getElem_mem a,by simp [h]⟩
theorem lallRight_some (d off cap:Nat)(ss:List (Int×Int))(w:World)(r:0<ss.length)(B:ss.length<=cap)(hm:cap<=9223372036854775807)(z:d<w.heap.size)(f:∀ k,k<ss.length->AtS w d (off+k*2) (ss.getD k (0,0))) :
  Cl 150 #[.slice (some ⟨d,off,none⟩) ss.length cap] w fun e s=>e=.returned (.bool (ss.all okS))/\Bw w s:=by
 have D:Hid (∀ k,k<ss.length->AtS w d (off+k*2) (ss.getD k (0,0))):=f;clear f;obtain ⟨n,c⟩:∃ n,Hid (n=ss.length):=⟨_,rfl⟩;rw [<- c.out] at B r ⊢;obtain ⟨R,g⟩:∃ R,Hid (R=ss.all okS):=⟨_,rfl⟩;rw [<- g.out];go_enter Tryz.func150,Tryz.ntmps150;go_wp2
 go_loopw [7] (fun i wr=>∃ k:Nat,k<=n/\i=I4 k/\Hid ((ss.take k).all okS=true)/\Bw w wr) (fun i _=>n-(intOf i).toNat)
 case atStart=>exact ⟨0,by omega,rfl,rfl,by go_grown⟩
 case round =>
  obtain ⟨k,F,rfl,A,a⟩:=hrel;have hsz:=a.size
  by_cases hlt:k<n
  ·obtain ⟨y,Y,l⟩:∃ y Y,Hid (ss.getD k (0,0)=(y,Y)):=⟨_,_,rfl⟩;have b:=(D.out k (by have:=c.out;omega)).below a z;rw [l.out] at b;obtain ⟨e0,E⟩:=b;simp only at e0 E
   cases hr:decide (y<=Y)
   ·have o:Hid (R=false):=by rw [g.out];exact all_fails (k:=k) (by have:=c.out;omega) (by rw [l.out];exact hr)
    go_wp2_with (go_at_call 151;go_must (refine (lright_any y Y _).mono ?_);rintro e s ⟨rfl,rfl⟩)
    go_ret;exact ⟨rb o.out.symm,(a.alloc hsz _).alloc (by simp;omega) _⟩
   ·have u:Hid ((ss.take (k+1)).all okS=true):=by
     show _=_
     rw [all_takeS (by have:=c.out;omega),A.out,l.out];exact hr
    go_wp2_with (go_at_call 151;go_must (refine (lright_any y Y _).mono ?_);rintro e s ⟨rfl,rfl⟩)
    go_roundw
    case rel=>exact ⟨k+1,by omega,by go_num,u,(a.alloc hsz _).alloc (by simp;omega) _⟩
    case measure=>simp [intOf];omega
  ·obtain rfl:k=n:=by omega
   have o:Hid (R=true):=by show _=_;rw [g.out,<- A.out,c.out,List.take_length]
   go_wp2;go_ret;exact ⟨rb o.out.symm,a⟩
theorem lallSingle_some (d off cap:Nat)(ss:List (Int×Int))(w:World)(r:0<ss.length)(A:ss.length<=cap)(hm:cap<=9223372036854775807)(u:d<w.heap.size)(f:∀ k,k<ss.length->AtS w d (off+k*2) (ss.getD k (0,0))) :
  Cl 153 #[.slice (some ⟨d,off,none⟩) ss.length cap] w fun e E=>e=.returned (.bool (ss.all oneS))/\Bw w E:=by
 have B:Hid (∀ k,k<ss.length->AtS w d (off+k*2) (ss.getD k (0,0))):=f;clear f;obtain ⟨n,c⟩:∃ n,Hid (n=ss.length):=⟨_,rfl⟩;rw [<- c.out] at A r ⊢;obtain ⟨R,g⟩:∃ R,Hid (R=ss.all oneS):=⟨_,rfl⟩;rw [<- g.out];go_enter Tryz.func153,Tryz.ntmps153;go_wp2
 go_loopw [7] (fun i wr=>∃ k:Nat,k<=n/\i=I4 k/\Hid ((ss.take k).all oneS=true)/\Bw w wr) (fun i _=>n-(intOf i).toNat)
 case atStart=>exact ⟨0,by omega,rfl,rfl,by go_grown⟩
 case round =>
  obtain ⟨k,F,rfl,z,a⟩:=hrel;have hsz:=a.size
  by_cases hlt:k<n
  ·obtain ⟨y,Y,l⟩:∃ y Y,Hid (ss.getD k (0,0)=(y,Y)):=⟨_,_,rfl⟩;have b:=(B.out k (by have:=c.out;omega)).below a u;rw [l.out] at b;obtain ⟨e0,D⟩:=b;simp only at e0 D
   cases hr:(y==Y)
   ·have o:Hid (R=false):=by rw [g.out];exact all_fails (k:=k) (by have:=c.out;omega) (by rw [l.out];exact hr)
    go_wp2;go_ret;exact ⟨rb o.out.symm,a.alloc hsz _⟩
   ·have s:Hid ((ss.take (k+1)).all oneS=true):=by
     show _=_
     rw [all_takeS (by have:=c.out;omega),z.out,l.out];exact hr
    go_wp2
    go_roundw
    case rel=>exact ⟨k+1,by omega,by go_num,s,a.alloc hsz _⟩
    case measure=>simp [intOf];omega
  ·obtain rfl:k=n:=by omega
   have o:Hid (R=true):=by show _=_;rw [g.out,<- z.out,c.out,List.take_length]
   go_wp2;go_ret;exact ⟨rb o.out.symm,a⟩
theorem lallRight_any (v:Value)(ss:List (Int×Int))(w:World)(k:SeesS w v ss)(c:ss≠[]) :
  Cl 150 #[v] w fun e l=>e=.returned (.bool (ss.all okS))/\Bw w l:=by
 obtain ⟨a,cap,rfl,f,hm,n,i⟩:=k;obtain ⟨b,off,rfl,g,d⟩:=i c;exact lallRight_some b off cap ss w (List.length_pos_iff.2 c) f (by unfold maxLen at hm;omega) g d
theorem lallSingle_any (v:Value)(ss:List (Int×Int))(w:World)(k:SeesS w v ss)(c:ss≠[]) :
  Cl 153 #[v] w fun e l=>e=.returned (.bool (ss.all oneS))/\Bw w l:=by
 obtain ⟨a,cap,rfl,f,hm,n,i⟩:=k;obtain ⟨b,off,rfl,g,d⟩:=i c;exact lallSingle_some b off cap ss w (List.length_pos_iff.2 c) f (by unfold maxLen at hm;omega) g d
abbrev resV (E:Int) (f:Bool) (v:Int) (o:Bool) (k u:Int):Value:=.agg #[.int .i64 E,.bool f,.int .u64 v,.bool o,.int .u64 k,.int .u64 u]
def valL (h E:Int) (f:Bool) (v:Int):Int :=
 if h=0∨h=4 then v else if ((h=1∨h=3)/\f=true)∨(h=2/\E=0) then 1 else 0

theorem truth_any (b:Bool)(w:World):Cl 53 #[.bool b] w fun e a=>e=.returned (U8 (if b then 1 else 0))/\w=a:=by
 cases b
 all_goals go_enter Tryz.func53,Tryz.ntmps53
 all_goals go_wp2
 all_goals go_ret
 all_goals exact ⟨rfl,rfl⟩
theorem val_other {h E:Int}{f:Bool}{v:Int}(c:¬ h=0/\¬ h=1/\¬ h=2/\¬ h=3/\¬ h=4):valL h E f v=0:=by
 unfold valL;rw [if_neg (by omega),if_neg (by omega)]
theorem retu {a b:Int}(h:a=b):Ending.returned (U8 a)=.returned (U8 b):=by rw [h]
theorem value_any (h E:Int)(f:Bool)(v:Int)(o:Bool)(k u:Int)(w:World):Cl 31 #[I4 h,resV E f v o k u] w fun e b=>e=.returned (U8 (valL h E f v))/\Bw w b:=by
 rcases qDf h with rfl|rfl|rfl|rfl|rfl|rfl|rfl|c
 rotate_right
 ·have a:Hid (valL h E f v=0):=val_other (by omega);obtain ⟨g,y,r,d,n,l,s⟩:=c;go_enter Tryz.func31,Tryz.ntmps31;go_wp2;go_ret;exact ⟨retu a.out.symm,by go_grown⟩
 all_goals by_cases hE:E=0
 all_goals try subst hE
 all_goals cases f
 all_goals go_enter Tryz.func31,Tryz.ntmps31
 all_goals go_wp2_with (go_at_call 53;go_must (refine (truth_any _ _).mono ?_);rintro e i ⟨rfl,rfl⟩)
 all_goals go_ret
 all_goals exact ⟨retu (by simp [valL, *]),by go_grown⟩
theorem rvalue_any (h E:Int)(f:Bool)(v:Int)(o:Bool)(k u:Int)(w:World):Cl 47 #[I4 h,resV E f v o k u] w fun e b=>e=.returned (U8 (valL h E f v))/\Bw w b:=by
 rcases qDf h with rfl|rfl|rfl|rfl|rfl|rfl|rfl|c
 rotate_right
 ·have a:Hid (valL h E f v=0):=val_other (by omega);obtain ⟨g,s,n,d,l,i,r⟩:=c;go_enter Tryz.func47,Tryz.ntmps47;go_wp2
  all_goals go_ret
  all_goals first
   | exact ⟨retu a.out.symm,by go_grown⟩
   | (exfalso;simp_all)
 all_goals by_cases hE:E=0
 all_goals try subst hE
 all_goals cases f
 all_goals go_enter Tryz.func47,Tryz.ntmps47
 all_goals go_wp2
 all_goals go_ret
 all_goals exact ⟨retu (by simp [valL, *]),by go_grown⟩
end Go.Proofs.YtmdhljoicnommaaGreat
