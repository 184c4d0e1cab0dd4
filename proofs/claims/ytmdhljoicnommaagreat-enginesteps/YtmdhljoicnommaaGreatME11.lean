/-
  S6LAsk
  J8Small
  S6LAll
  J8Value
-/
import Derived.Test.YtmdhljoicnommaaGreatME10
import Derived.Laws.Externs
namespace Go.Proofs.YtmdhljoicnommaaGreat
set_option maxHeartbeats 12800000
open Go.RowKit
set_option linter.unusedVariables false
set_option maxRecDepth 100000
set_option maxRecDepth 20000
theorem qAw {d:Func}{p:Tmp}{c:TypeId}(h:d.results=#[.cell p c])(b:Array Value)(P:Program)(w:World) :
  (results d b).run P w=((asAddr (b.getD p undef)).run P w).andThen fun a f=>(loadVar c a).run P f:=by
 simp only [results,h]
 simp [Sem.run_bind,Result.andThen]
theorem qYa (x y:Int)(a:0<=x)(b:0<=y)(w:World):(callFunc 172 #[U8 x,U8 y,U8 0]).run Tryz.prog w =
  .ok (.value (.tuple #[U8 ((x+y)%18446744073709551616),U8 ((x+y) / 18446744073709551616)])) w:=by
 rw [run_callFunc_extern Tryz.func172 (by kernel_rfl) (by kernel_rfl) (by kernel_rfl) (e:=add64Entry) (by kernel_rfl),run_add64 x y 0 a b (Int.le_refl 0) (by decide),Int.add_zero]
 rfl
theorem qLa (a A:Int)(w:World):Cl 151 #[.agg #[U8 a,U8 A]] w fun e b=>e=.returned (.bool (decide (a<=A)))/\w.alloc (spO a A)=b:=by
 go_enter Tryz.func151,Tryz.ntmps151;go_wp2;go_ret;exact ⟨rfl,rfl⟩
theorem qGz (n:Int)(w:World):Cl 134 #[U8 n] w fun e b=>e=.returned (.agg #[U8 n,U8 n])/\Bw w b:=by
 go_enter Tryz.func134,Tryz.ntmps134;go_wp2;refine bodyPost_ret (v:=.agg #[U8 n,U8 n]) ?_ rfl ⟨rfl,by go_grown⟩;rw [qAw rfl]
 simp [asAddr,Result.andThen]
 rw [qAe (a:=n) (A:=n)]
 all_goals go_cell
theorem qDy (w:World):Cl 133 #[] w fun e b=>e=.returned (.agg #[U8 0,U8 18446744073709551615])/\Bw w b:=by
 go_enter Tryz.func133,Tryz.ntmps133;go_wp2;refine bodyPost_ret (v:=.agg #[U8 0,U8 18446744073709551615]) ?_ rfl ⟨rfl,by go_grown⟩;rw [qAw rfl]
 simp [asAddr,Result.andThen]
 rw [qAe (a:=0) (A:=18446744073709551615)]
 all_goals go_cell
theorem yBc (a A n:Int)(w:World):Cl 152 #[.agg #[U8 a,U8 A],U8 n] w fun e b=>e=.returned (.bool (qGv a A n))/\w.alloc (spO a A)=b:=by
 by_cases h:a<=n
 ·go_enter Tryz.func152,Tryz.ntmps152;go_wp2;go_ret;exact ⟨rb (by rw [Bool.eq_iff_iff];simp [qGv];omega),rfl⟩
 ·go_enter Tryz.func152,Tryz.ntmps152;go_wp2;go_ret;exact ⟨rb (by rw [Bool.eq_iff_iff];simp [qGv];omega),rfl⟩
theorem yEt (a A b B:Int)(w:World):Cl 135 #[.agg #[U8 a,U8 A],.agg #[U8 b,U8 B]] w fun e d=>e=.returned (.bool (qDs a A b B))/\Bw w d:=by
 obtain ⟨s,i⟩:∃ r,Hid (r=decide (a<=A)):=⟨_,rfl⟩;obtain ⟨l,f⟩:∃ r,Hid (r=qGv b B a):=⟨_,rfl⟩;obtain ⟨n,g⟩:∃ r,Hid (r=qGv b B A):=⟨_,rfl⟩
 have y:Hid (qDs a A b B=(s&&l&&n)):=by
  show _=_
  rw [i.out,f.out,g.out,Bool.eq_iff_iff]
  simp [qDs,qGv]
  omega
 have o:=i;have k:=f;have u:=g
 cases s<;>cases l<;>cases n
 all_goals go_enter Tryz.func135,Tryz.ntmps135
 all_goals go_wp2_with (first
  | (go_at_call 151;have c:=o;clear c;go_must (refine (qLa a A _).mono ?_);rintro e d ⟨rfl,rfl⟩;rw [<- i.out];clear o)
  | (go_at_call 152;have c:=k;clear c;go_must (refine (yBc b B a _).mono ?_);rintro e d ⟨rfl,rfl⟩;rw [<- f.out];clear k)
  | (go_at_call 152;have c:=u;clear c;go_must (refine (yBc b B A _).mono ?_);rintro e d ⟨rfl,rfl⟩;rw [<- g.out];clear u))
 all_goals go_ret
 all_goals exact ⟨rb (by rw [y.out];rfl),by go_grown⟩
abbrev qDz:Int:=18446744073709551615
abbrev qBl (hi:Int):Ty:=⟨1,0,hi,0⟩
abbrev qFv:Ty:=⟨2,0,0,0⟩
def qEa (h:Int):List Ty :=
 if h=0∨h=1∨h=3 then [qFv,qBl qDz] else if h=2∨h=4 then [qFv,qBl qDz,qBl qDz] else if h=5 then [qBl 15] else if h=6 then [qBl qDz] else []
def qCs (h:Int):Ty×Bool :=
 if h=0∨h=4∨h=5 then (qBl qDz,true) else if h=1∨h=2∨h=3 then (qBl 1,true) else if h=6 then (qBl 0,true) else (Ty.nil,false)
theorem qIh (h:Int):h=0∨h=1∨h=2∨h=3∨h=4∨h=5∨h=6∨(¬ h=0/\¬ h=1/\¬ h=2/\¬ h=3/\¬ h=4/\¬ h=5/\¬ h=6):=by omega
theorem qYj {h:Int}(c:¬ h=0/\¬ h=1/\¬ h=2/\¬ h=3/\¬ h=4/\¬ h=5/\¬ h=6):qEa h=[]:=by
 unfold qEa;rw [if_neg (by omega),if_neg (by omega),if_neg (by omega),if_neg (by omega)]
theorem yDg {h:Int}(c:¬ h=0/\¬ h=1/\¬ h=2/\¬ h=3/\¬ h=4/\¬ h=5/\¬ h=6):qCs h=(Ty.nil,false):=by
 unfold qCs;rw [if_neg (by omega),if_neg (by omega),if_neg (by omega)]
theorem qEu (a A:Int)(w:World):Cl 140 #[.agg #[U8 a,U8 A]] w fun e b=>e=.returned (tyV ⟨1,a,A,0⟩)/\Bw w b:=by
 go_enter Tryz.func140,Tryz.ntmps140;go_wp2;refine bodyPost_ret (v:=tyV ⟨1,a,A,0⟩) ?_ rfl ⟨rfl,by go_grown⟩;rw [qAw rfl]
 simp [asAddr,Result.andThen]
 rw [qFl (k:=1) (lo:=a) (hi:=A) (m:=0)]
 refine ⟨?_,?_,?_,?_⟩<;>go_cell
theorem qFm (hi:Int)(w:World):Cl 124 #[U8 hi] w fun e a=>e=.returned (tyV (qBl hi))/\Bw w a:=by
 go_enter Tryz.func124,Tryz.ntmps124;go_wp2;refine bodyPost_ret (v:=tyV (qBl hi)) ?_ rfl ⟨rfl,by go_grown⟩;rw [qAw rfl]
 simp [asAddr,Result.andThen]
 rw [qFl (k:=1) (lo:=0) (hi:=hi) (m:=0)]
 refine ⟨?_,?_,?_,?_⟩<;>go_cell
theorem yCj (w:World)(base:Nat)(e:TypeId):w.ownsRow base e 4 (.slice none 0 0) ([]:List Ty).length (qAo []):=⟨rfl,.inl ⟨rfl,rfl⟩⟩
theorem Tryz.infoType8:(Tryz.prog.info? 153).map (fun i=>(i.zero,i.size,i.bytes))=some (some (tyV Ty.nil),4,32):=by kernel_rfl
theorem qEk:∃ i,Tryz.prog.info? 153=some i/\i.zero=some (tyV Ty.nil)/\i.size=4/\i.bytes=32:=by
 have h:=Tryz.infoType8;simp only [Option.map_eq_some_iff,Prod.mk.injEq] at h;obtain ⟨i,d,c,a,b⟩:=h;exact ⟨i,d,c,a,b⟩
theorem qMq (v:Value)(xs:List Ty)(w:World)(i:SeesT w v xs)(J:xs.length<=1048576):Cl 139 #[v] w fun e l=>∃ u,e=.returned u/\l.ownsRow w.heap.size 153 4 u (qFv :: qBl qDz :: xs).length (qAo (qFv :: qBl qDz :: xs))/\Bw w l:=by
 obtain ⟨B,hi,o,s,y⟩:=qEk;have A:Hid (SeesT w v xs):=i;obtain ⟨a,cap,rfl⟩:=i.shape;obtain ⟨n,K⟩:∃ n,Hid (xs.length=n):=⟨_,rfl⟩;clear i;go_enter Tryz.func139,Tryz.ntmps139
 go_wp2_with (first
  | (go_at_call 133;go_must (refine (qDy _).mono ?_);rintro e G ⟨rfl,b⟩)
  | (go_at_call 140;go_must (refine (qEu _ _ _).mono ?_);rintro e D ⟨rfl,f⟩;go_must (have c:=b.trans (f.mono b.size);have r:=c.size;clear b f))
  | (at_builtin;go_must (refine qCc rfl (.tmp 6) (.tmp 7) 123 rfl w.heap.size 153 B (tyV Ty.nil) Tryz.underlying123 hi o s y rfl _ [qFv,qBl qDz] rfl (qHe _ _ _ _ _ _ _ rfl r rfl rfl (by simp)) _ xs rfl ((A.out.below c).below ((Below.refl _ _).alloc (Nat.le_refl _) _)) (by unfold maxLen;simp;omega) (by simp;omega) (by simp;omega) ?_);intro I z d g;go_must (have k:Bw w z:=(c.alloc r _).grown g (by simp;omega) (fun j E=>by (have F:D.heap.size=j:=Option.some.inj E);omega);clear g)))
 go_ret;exact ⟨_,rfl,d,k⟩
theorem qCe {w:World}{b base:Nat}{e:TypeId}{size:Nat}{v:Value}{n:Nat}{xs:List Value}(h:w.ownsRow base e size v n xs)(d:b<=base):w.ownsRow b e size v n xs:=by
 obtain ⟨c,i|⟨g,cap,a,rfl,k,f⟩⟩:=h
 ·exact ⟨c,.inl i⟩
 ·exact ⟨c,.inr ⟨g,cap,a,rfl,Nat.le_trans d k,f⟩⟩
theorem qTz (h:Int)(w:World):Cl 117 #[I4 h] w fun e o=>∃ u,e=.returned u/\o.ownsRow w.heap.size 153 4 u (qEa h).length (qAo (qEa h))/\Bw w o:=by
 rcases qIh h with rfl|rfl|rfl|rfl|rfl|rfl|rfl|c
 ·go_enter Tryz.func117,Tryz.ntmps117
  go_wp2_with (first
  | (go_at_call 139;go_must (refine (qMq _ [] _ (SeesT.nil _) (by simp)).mono ?_);rintro e k ⟨r,rfl,d,a⟩))
  go_ret;exact ⟨_,rfl,d,a⟩
 ·go_enter Tryz.func117,Tryz.ntmps117
  go_wp2_with (first
  | (go_at_call 139;go_must (refine (qMq _ [] _ (SeesT.nil _) (by simp)).mono ?_);rintro e k ⟨r,rfl,d,a⟩))
  go_ret;exact ⟨_,rfl,d,a⟩
 ·go_enter Tryz.func117,Tryz.ntmps117
  go_wp2_with (first
  | (go_at_call 133;go_must (refine (qDy _).mono ?_);rintro e k ⟨rfl,a⟩)
  | (go_at_call 140;go_must (refine (qEu _ _ _).mono ?_);rintro e n ⟨rfl,b⟩;go_must (have f:=a.trans (b.mono a.size);have i:=f.size;clear a b))
  | (go_at_call 139;go_must (refine (qMq _ [qBl qDz] _ (SeesT.lit _ _ _ _ _ rfl rfl (by simp)) (by simp)).mono ?_);rintro e s ⟨z,rfl,g,l⟩))
  go_ret;exact ⟨_,rfl,qCe g (by simp;omega),(f.alloc i _).trans (l.mono (by simp;omega))⟩
 ·go_enter Tryz.func117,Tryz.ntmps117
  go_wp2_with (first
  | (go_at_call 139;go_must (refine (qMq _ [] _ (SeesT.nil _) (by simp)).mono ?_);rintro e k ⟨r,rfl,d,a⟩))
  go_ret;exact ⟨_,rfl,d,a⟩
 ·go_enter Tryz.func117,Tryz.ntmps117
  go_wp2_with (first
  | (go_at_call 133;go_must (refine (qDy _).mono ?_);rintro e k ⟨rfl,a⟩)
  | (go_at_call 140;go_must (refine (qEu _ _ _).mono ?_);rintro e n ⟨rfl,b⟩;go_must (have f:=a.trans (b.mono a.size);have i:=f.size;clear a b))
  | (go_at_call 139;go_must (refine (qMq _ [qBl qDz] _ (SeesT.lit _ _ _ _ _ rfl rfl (by simp)) (by simp)).mono ?_);rintro e s ⟨z,rfl,g,l⟩))
  go_ret;exact ⟨_,rfl,qCe g (by simp;omega),(f.alloc i _).trans (l.mono (by simp;omega))⟩
 ·go_enter Tryz.func117,Tryz.ntmps117
  go_wp2_with (first
  | (go_at_call 140;go_must (refine (qEu _ _ _).mono ?_);rintro e n ⟨rfl,b⟩;go_must (have i:=b.size)))
  go_ret;exact ⟨_,rfl,qHe _ _ _ [qBl 15] _ _ _ rfl i rfl rfl (by simp),b.alloc i _⟩
 ·go_enter Tryz.func117,Tryz.ntmps117
  go_wp2_with (first
  | (go_at_call 133;go_must (refine (qDy _).mono ?_);rintro e k ⟨rfl,a⟩)
  | (go_at_call 140;go_must (refine (qEu _ _ _).mono ?_);rintro e n ⟨rfl,b⟩;go_must (have f:=a.trans (b.mono a.size);have i:=f.size;clear a b)))
  go_ret;exact ⟨_,rfl,qHe _ _ _ [qBl qDz] _ _ _ rfl i rfl rfl (by simp),f.alloc i _⟩
 ·have y:Hid (qEa h=[]):=qYj c;obtain ⟨D,A,B,G,I,F,E⟩:=c;go_enter Tryz.func117,Tryz.ntmps117;go_wp2;go_ret;rw [y.out];exact ⟨_,rfl,yCj _ _ _,Below.refl _ _⟩
theorem qSa (h:Int)(w:World):Cl 88 #[I4 h] w fun e y=>∃ u,e=.returned u/\y.ownsRow w.heap.size 153 4 u (qEa h).length (qAo (qEa h))/\Bw w y:=by
 rcases qIh h with rfl|rfl|rfl|rfl|rfl|rfl|rfl|c
 ·have d:=Below.refl w.heap.size w;have g:Hid True:=trivial;go_enter Tryz.func88,Tryz.ntmps88
  go_wp2_with (first
  | (go_at_call 124;(have i:=g;clear i);go_must (refine (qFm _ _).mono ?_);rintro e k ⟨rfl,b⟩;go_must (have a:Bw w k:=d.trans (b.mono d.size);have f:=a.size;clear b g)))
  go_ret;exact ⟨_,rfl,qHe _ _ _ [qFv,qBl qDz] _ _ _ rfl f rfl rfl (by simp),a.alloc f _⟩
 ·have d:=Below.refl w.heap.size w;have g:Hid True:=trivial;go_enter Tryz.func88,Tryz.ntmps88
  go_wp2_with (first
  | (go_at_call 124;(have i:=g;clear i);go_must (refine (qFm _ _).mono ?_);rintro e k ⟨rfl,b⟩;go_must (have a:Bw w k:=d.trans (b.mono d.size);have f:=a.size;clear b g)))
  go_ret;exact ⟨_,rfl,qHe _ _ _ [qFv,qBl qDz] _ _ _ rfl f rfl rfl (by simp),a.alloc f _⟩
 ·have d:=Below.refl w.heap.size w;have g:Hid True:=trivial;have r:Hid True:=trivial;go_enter Tryz.func88,Tryz.ntmps88
  go_wp2_with (first
  | (go_at_call 124;(have i:=g;clear i);go_must (refine (qFm _ _).mono ?_);rintro e k ⟨rfl,b⟩;go_must (have a:Bw w k:=d.trans (b.mono d.size);have f:=a.size;clear b g))
  | (go_at_call 124;(have i:=r;clear i);go_must (refine (qFm _ _).mono ?_);rintro e s ⟨rfl,n⟩;go_must (have l:Bw w s:=a.trans (n.mono a.size);have o:=l.size;clear n r)))
  go_ret;exact ⟨_,rfl,qHe _ _ _ [qFv,qBl qDz,qBl qDz] _ _ _ rfl o rfl rfl (by simp),l.alloc o _⟩
 ·have d:=Below.refl w.heap.size w;have g:Hid True:=trivial;go_enter Tryz.func88,Tryz.ntmps88
  go_wp2_with (first
  | (go_at_call 124;(have i:=g;clear i);go_must (refine (qFm _ _).mono ?_);rintro e k ⟨rfl,b⟩;go_must (have a:Bw w k:=d.trans (b.mono d.size);have f:=a.size;clear b g)))
  go_ret;exact ⟨_,rfl,qHe _ _ _ [qFv,qBl qDz] _ _ _ rfl f rfl rfl (by simp),a.alloc f _⟩
 ·have d:=Below.refl w.heap.size w;have g:Hid True:=trivial;have r:Hid True:=trivial;go_enter Tryz.func88,Tryz.ntmps88
  go_wp2_with (first
  | (go_at_call 124;(have i:=g;clear i);go_must (refine (qFm _ _).mono ?_);rintro e k ⟨rfl,b⟩;go_must (have a:Bw w k:=d.trans (b.mono d.size);have f:=a.size;clear b g))
  | (go_at_call 124;(have i:=r;clear i);go_must (refine (qFm _ _).mono ?_);rintro e s ⟨rfl,n⟩;go_must (have l:Bw w s:=a.trans (n.mono a.size);have o:=l.size;clear n r)))
  go_ret;exact ⟨_,rfl,qHe _ _ _ [qFv,qBl qDz,qBl qDz] _ _ _ rfl o rfl rfl (by simp),l.alloc o _⟩
 ·have d:=Below.refl w.heap.size w;have g:Hid True:=trivial;go_enter Tryz.func88,Tryz.ntmps88
  go_wp2_with (first
  | (go_at_call 124;(have i:=g;clear i);go_must (refine (qFm _ _).mono ?_);rintro e k ⟨rfl,b⟩;go_must (have a:Bw w k:=d.trans (b.mono d.size);have f:=a.size;clear b g)))
  go_ret;exact ⟨_,rfl,qHe _ _ _ [qBl 15] _ _ _ rfl f rfl rfl (by simp),a.alloc f _⟩
 ·have d:=Below.refl w.heap.size w;have g:Hid True:=trivial;go_enter Tryz.func88,Tryz.ntmps88
  go_wp2_with (first
  | (go_at_call 124;(have i:=g;clear i);go_must (refine (qFm _ _).mono ?_);rintro e k ⟨rfl,b⟩;go_must (have a:Bw w k:=d.trans (b.mono d.size);have f:=a.size;clear b g)))
  go_ret;exact ⟨_,rfl,qHe _ _ _ [qBl qDz] _ _ _ rfl f rfl rfl (by simp),a.alloc f _⟩
 ·have z:Hid (qEa h=[]):=qYj c;obtain ⟨D,A,B,G,I,F,E⟩:=c;go_enter Tryz.func88,Tryz.ntmps88;go_wp2;go_ret;rw [z.out];exact ⟨_,rfl,yCj _ _ _,Below.refl _ _⟩
def qPx (s:Int×Int):Bool:=s.1==s.2
theorem qYe {p:Int×Int->Bool}{ss:List (Int×Int)}{k:Nat}(a:k<ss.length):(ss.take (k+1)).all p=((ss.take k).all p&&p (ss.getD k (0,0))):=by
 have e:ss.getD k (0,0)=ss[k]:=by simp [a]
 rw [e,List.take_succ_eq_append_getElem a,List.all_append]
 simp
theorem qYm {p:Int×Int->Bool}{ss:List (Int×Int)}{k:Nat}(a:k<ss.length)(h:p (ss.getD k (0,0))=false):ss.all p=false:=by
 have e:ss.getD k (0,0)=ss[k]:=by simp [a]
 rw [e] at h;rw [List.all_eq_false];exact ⟨ss[k],List.getElem_mem a,by simp [h]⟩
theorem qWi (d off cap:Nat)(ss:List (Int×Int))(w:World)(g:0<ss.length)(E:ss.length<=cap)(hm:cap<=9223372036854775807)(z:d<w.heap.size)(f:∀ k,k<ss.length->AtS w d (off+k*2) (ss.getD k (0,0))) :
  Cl 150 #[.slice (some ⟨d,off,none⟩) ss.length cap] w fun e o=>e=.returned (.bool (ss.all okS))/\Bw w o:=by
 have B:Hid (∀ k,k<ss.length->AtS w d (off+k*2) (ss.getD k (0,0))):=f;clear f;obtain ⟨n,c⟩:∃ n,Hid (n=ss.length):=⟨_,rfl⟩;rw [<- c.out] at E g ⊢;obtain ⟨R,r⟩:∃ R,Hid (R=ss.all okS):=⟨_,rfl⟩;rw [<- r.out];go_enter Tryz.func150,Tryz.ntmps150;go_wp2
 go_loopw [7] (fun i wr=>∃ k:Nat,k<=n/\i=I4 k/\Hid ((ss.take k).all okS=true)/\Bw w wr) (fun i _=>n-(intOf i).toNat)
 case atStart=>exact ⟨0,by omega,rfl,rfl,by go_grown⟩
 case round =>
  obtain ⟨k,F,rfl,u,a⟩:=hrel;have hsz:=a.size
  by_cases hlt:k<n
  ·obtain ⟨y,Y,l⟩:∃ y Y,Hid (ss.getD k (0,0)=(y,Y)):=⟨_,_,rfl⟩;have b:=(B.out k (by have:=c.out;omega)).below a z;rw [l.out] at b;obtain ⟨e0,D⟩:=b;simp only at e0 D
   cases hr:decide (y<=Y)
   ·have s:Hid (R=false):=by rw [r.out];exact qYm (k:=k) (by have:=c.out;omega) (by rw [l.out];exact hr)
    go_wp2_with (go_at_call 151;go_must (refine (qLa y Y _).mono ?_);rintro e o ⟨rfl,rfl⟩)
    go_ret;exact ⟨rb s.out.symm,(a.alloc hsz _).alloc (by simp;omega) _⟩
   ·have A:Hid ((ss.take (k+1)).all okS=true):=by
     show _=_
     rw [qYe (by have:=c.out;omega),u.out,l.out];exact hr
    go_wp2_with (go_at_call 151;go_must (refine (qLa y Y _).mono ?_);rintro e o ⟨rfl,rfl⟩)
    go_roundw
    case rel=>exact ⟨k+1,by omega,by go_num,A,(a.alloc hsz _).alloc (by simp;omega) _⟩
    case measure=>simp [intOf];omega
  ·obtain rfl:k=n:=by omega
   have s:Hid (R=true):=by show _=_;rw [r.out,<- u.out,c.out,List.take_length]
   go_wp2;go_ret;exact ⟨rb s.out.symm,a⟩
theorem qVb (d off cap:Nat)(ss:List (Int×Int))(w:World)(g:0<ss.length)(E:ss.length<=cap)(hm:cap<=9223372036854775807)(u:d<w.heap.size)(f:∀ k,k<ss.length->AtS w d (off+k*2) (ss.getD k (0,0))) :
  Cl 153 #[.slice (some ⟨d,off,none⟩) ss.length cap] w fun e D=>e=.returned (.bool (ss.all qPx))/\Bw w D:=by
 have A:Hid (∀ k,k<ss.length->AtS w d (off+k*2) (ss.getD k (0,0))):=f;clear f;obtain ⟨n,c⟩:∃ n,Hid (n=ss.length):=⟨_,rfl⟩;rw [<- c.out] at E g ⊢;obtain ⟨R,o⟩:∃ R,Hid (R=ss.all qPx):=⟨_,rfl⟩;rw [<- o.out];go_enter Tryz.func153,Tryz.ntmps153;go_wp2
 go_loopw [7] (fun i wr=>∃ k:Nat,k<=n/\i=I4 k/\Hid ((ss.take k).all qPx=true)/\Bw w wr) (fun i _=>n-(intOf i).toNat)
 case atStart=>exact ⟨0,by omega,rfl,rfl,by go_grown⟩
 case round =>
  obtain ⟨k,F,rfl,s,a⟩:=hrel;have hsz:=a.size
  by_cases hlt:k<n
  ·obtain ⟨y,Y,l⟩:∃ y Y,Hid (ss.getD k (0,0)=(y,Y)):=⟨_,_,rfl⟩;have b:=(A.out k (by have:=c.out;omega)).below a u;rw [l.out] at b;obtain ⟨e0,B⟩:=b;simp only at e0 B
   cases hr:(y==Y)
   ·have r:Hid (R=false):=by rw [o.out];exact qYm (k:=k) (by have:=c.out;omega) (by rw [l.out];exact hr)
    go_wp2;go_ret;exact ⟨rb r.out.symm,a.alloc hsz _⟩
   ·have z:Hid ((ss.take (k+1)).all qPx=true):=by
     show _=_
     rw [qYe (by have:=c.out;omega),s.out,l.out];exact hr
    go_wp2
    go_roundw
    case rel=>exact ⟨k+1,by omega,by go_num,z,a.alloc hsz _⟩
    case measure=>simp [intOf];omega
  ·obtain rfl:k=n:=by omega
   have r:Hid (R=true):=by show _=_;rw [o.out,<- s.out,c.out,List.take_length]
   go_wp2;go_ret;exact ⟨rb r.out.symm,a⟩
theorem qMu (v:Value)(ss:List (Int×Int))(w:World)(g:SeesS w v ss)(c:ss≠[]) :
  Cl 150 #[v] w fun e i=>e=.returned (.bool (ss.all okS))/\Bw w i:=by
 obtain ⟨a,cap,rfl,l,hm,n,k⟩:=g;obtain ⟨b,off,rfl,f,d⟩:=k c;exact qWi b off cap ss w (List.length_pos_iff.2 c) l (by unfold maxLen at hm;omega) f d
theorem qPh (v:Value)(ss:List (Int×Int))(w:World)(g:SeesS w v ss)(c:ss≠[]) :
  Cl 153 #[v] w fun e i=>e=.returned (.bool (ss.all qPx))/\Bw w i:=by
 obtain ⟨a,cap,rfl,l,hm,n,k⟩:=g;obtain ⟨b,off,rfl,f,d⟩:=k c;exact qVb b off cap ss w (List.length_pos_iff.2 c) l (by unfold maxLen at hm;omega) f d
abbrev qNw (E:Int) (f:Bool) (v:Int) (o:Bool) (k u:Int):Value:=.agg #[.int .i64 E,.bool f,.int .u64 v,.bool o,.int .u64 k,.int .u64 u]
def qJk (h E:Int) (f:Bool) (v:Int):Int :=
 if h=0∨h=4 then v else if ((h=1∨h=3)/\f=true)∨(h=2/\E=0) then 1 else 0

theorem yQz (b:Bool)(w:World):Cl 53 #[.bool b] w fun e a=>e=.returned (U8 (if b then 1 else 0))/\w=a:=by
 cases b
 all_goals go_enter Tryz.func53,Tryz.ntmps53
 all_goals go_wp2
 all_goals go_ret
 all_goals exact ⟨rfl,rfl⟩
theorem qXd {h E:Int}{f:Bool}{v:Int}(c:¬ h=0/\¬ h=1/\¬ h=2/\¬ h=3/\¬ h=4):qJk h E f v=0:=by
 unfold qJk;rw [if_neg (by omega),if_neg (by omega)]
theorem yIh {a b:Int}(h:a=b):Ending.returned (U8 a)=.returned (U8 b):=by rw [h]
theorem yQm (h E:Int)(f:Bool)(v:Int)(o:Bool)(k u:Int)(w:World):Cl 31 #[I4 h,qNw E f v o k u] w fun e b=>e=.returned (U8 (qJk h E f v))/\Bw w b:=by
 rcases qIh h with rfl|rfl|rfl|rfl|rfl|rfl|rfl|c
 rotate_right
 ·have a:Hid (qJk h E f v=0):=qXd (by omega);obtain ⟨i,r,d,g,l,s,n⟩:=c;go_enter Tryz.func31,Tryz.ntmps31;go_wp2;go_ret;exact ⟨yIh a.out.symm,by go_grown⟩
 all_goals by_cases hE:E=0
 all_goals try subst hE
 all_goals cases f
 all_goals go_enter Tryz.func31,Tryz.ntmps31
 all_goals go_wp2_with (go_at_call 53;go_must (refine (yQz _ _).mono ?_);rintro e y ⟨rfl,rfl⟩)
 all_goals go_ret
 all_goals exact ⟨yIh (by simp [qJk, *]),by go_grown⟩
theorem yHc (h E:Int)(f:Bool)(v:Int)(o:Bool)(k u:Int)(w:World):Cl 47 #[I4 h,qNw E f v o k u] w fun e b=>e=.returned (U8 (qJk h E f v))/\Bw w b:=by
 rcases qIh h with rfl|rfl|rfl|rfl|rfl|rfl|rfl|c
 rotate_right
 ·have a:Hid (qJk h E f v=0):=qXd (by omega);obtain ⟨i,r,d,g,l,s,n⟩:=c;go_enter Tryz.func47,Tryz.ntmps47;go_wp2
  all_goals go_ret
  all_goals first
   | exact ⟨yIh a.out.symm,by go_grown⟩
   | (exfalso;simp_all)
 all_goals by_cases hE:E=0
 all_goals try subst hE
 all_goals cases f
 all_goals go_enter Tryz.func47,Tryz.ntmps47
 all_goals go_wp2
 all_goals go_ret
 all_goals exact ⟨yIh (by simp [qJk, *]),by go_grown⟩
end Go.Proofs.YtmdhljoicnommaaGreat
