/-
  S6Slices
  S6Box
  J8Types
  S6Ref
  S6RRefA
  S6RRefB
  S6RNo
  S6RRefine
  S6Inside
  S6ROne
-/
import Derived.Test.YtmdhljoicnommaaGreatMS6
import Derived.Test.YtmdhljoicnommaaGreatMS9
import Derived.Deep.MidRow
namespace Go.Proofs.YtmdhljoicnommaaGreat
set_option maxHeartbeats 12800000
open Go.ChangeShapes Go.WideShapes Go.ChangeAt Go.RowKit
set_option linter.unusedVariables false
set_option maxRecDepth 100000
open Go.RowKit
set_option maxRecDepth 20000
abbrev Sp:Type:=Int×Int
abbrev spC (p:Sp):List Value:=[.int .u64 p.1,.int .u64 p.2]
def wfS (p:Sp):Prop:=W64 p.1/\W64 p.2
def AtS (w:World) (b off:Nat) (p:Sp):Prop:=w.cell? ⟨b,off,none⟩=some (.int .u64 p.1)/\w.cell? ⟨b,off+1,none⟩=some (.int .u64 p.2)
theorem AtS.below {w a:World}{b off B:Nat}{p:Sp}(h:AtS w b off p)(d:Below B w a)(c:b<B):AtS a b off p:=by
 unfold AtS;rw [d.cell (p:=⟨b,off,none⟩) c,d.cell (p:=⟨b,off+1,none⟩) c];exact h
def SeesS (w:World) (v:Value) (xs:List Sp):Prop :=
 ∃ a cap,v=.slice a xs.length cap/\xs.length<=cap/\cap<=maxLen/\(a=none->cap=0) /\
  (xs≠[]->∃ b off,a=some ⟨b,off,none⟩/\b<w.heap.size/\∀ k,k<xs.length->AtS w b (off+k*2) (xs.getD k (0,0)))
theorem SeesS.below {w g:World}{v:Value}{xs:List Sp}(h:SeesS w v xs)(d:Bw w g):SeesS g v xs:=by
 obtain ⟨a,cap,rfl,r,o,n,l⟩:=h;refine ⟨a,cap,rfl,r,o,n,fun i=>?_⟩;obtain ⟨b,off,rfl,c,f⟩:=l i;exact ⟨b,off,rfl,Nat.lt_of_lt_of_le c d.size,fun k s=>(f k s).below d c⟩
def flatS (xs:List Sp):List Value:=xs.flatMap spC
theorem flatS_app (l m:List Sp):flatS l++flatS m=flatS (l++m):=by simp [flatS]
theorem flatS_len (xs:List Sp):(flatS xs).length=xs.length*2:=by
 induction xs with
 | nil=>rfl
 | cons x xs ih =>
  have e:flatS (x :: xs)=spC x++flatS xs:=rfl;rw [e,List.length_append,ih,List.length_cons]
  simp;omega
theorem flatS_at:∀ (xs:List Sp)(k j:Nat),k<xs.length->j<2->(flatS xs)[k*2+j]? = (spC (xs.getD k (0,0)))[j]?
 | [],k,j,hk,_=>by simp at hk
 | x :: xs,0,j,_,hj=>by
  have e:flatS (x :: xs)=spC x++flatS xs:=rfl;rw [e,List.getElem?_append_left (by simp [spC];omega)]
  simp
 | x :: xs,k+1,j,hk,hj=>by
  have e:flatS (x :: xs)=spC x++flatS xs:=rfl;have a:(spC x).length=2:=rfl;rw [e,List.getElem?_append_right (by rw [a];omega),a,show (k+1)*2+j-2=k*2+j by omega,flatS_at xs k j (by simpa using hk) hj]
  simp [List.getD]
theorem cells_atS {w:World}{b off:Nat}{p:Sp}(h:∀ j,j<2->w.cell? ⟨b,off+j,none⟩=(spC p)[j]?):AtS w b off p:=⟨h 0 (by omega),h 1 (by omega)⟩
theorem flatS_one (xs:List Sp):∀ u∈flatS xs,u.oneCell'=true:=by
 intro u a;simp only [flatS,List.mem_flatMap] at a;obtain ⟨i,_,hi⟩:=a;simp only [spC,List.mem_cons,List.not_mem_nil,or_false] at hi
 rcases hi with rfl|rfl<;>rfl
theorem own_seesS {w:World}{base:Nat}{e:TypeId}{v:Value}{xs:List Sp}(h:w.ownsRow base e 2 v xs.length (flatS xs)):SeesS w v xs:=by
 have h0:=h
 rcases h with ⟨r,⟨rfl,d⟩|⟨g,cap,l,rfl,o,a,c,b,u,s⟩⟩
 ·have:xs=[]:=List.eq_nil_of_length_eq_zero d;subst this;exact ⟨none,0,rfl,by simp,by simp [maxLen],fun _=>rfl,fun h=>absurd rfl h⟩
 ·refine ⟨_,cap,rfl,c,b,fun h=>by simp at h,fun n=>⟨g,0,rfl,(Array.getElem?_eq_some_iff.1 a).1,fun k f=>cells_atS fun j i=>?_⟩⟩;rw [Nat.zero_add,h0.cellAt (k*2+j) (by omega)];exact flatS_at xs k j f i
theorem SeesS.lit (w:World)(t:TypeId)(xs:List Sp)(cs:Array Value)(n:Nat)(a:cs=(flatS xs).toArray)(b:n=xs.length)(hm:xs.length<=1048576):SeesS (w.alloc (.cells cs t)) (.slice (some ⟨w.heap.size,0,none⟩) n n) xs:=by
 subst b a;refine own_seesS (base:=w.heap.size) (e:=t) ⟨flatS_len xs,.inr ⟨w.heap.size,xs.length,(flatS xs).toArray,rfl,Nat.le_refl _,?_,Nat.le_refl _,by unfold maxLen;omega,?_,?_⟩⟩
 ·show (w.heap.push _)[w.heap.size]? = _
  simp
 ·rw [List.size_toArray,flatS_len]
 ·rw [<- flatS_len];simp
abbrev spO (a A:Int):Obj:=.cells #[.int .u64 a,.int .u64 A] 151
theorem qAz {w a:World}{o:Obj}(h:Below (w.alloc o).heap.size (w.alloc o) a):Bw w a:=((Below.refl _ _).alloc (Nat.le_refl _) o).trans (h.mono (by simp))
theorem qAc {w:World}{n:Nat}{a A:Int}(h0:w.cell? ⟨n,0,none⟩=some (U8 a))(f:w.cell? ⟨n,1,none⟩=some (U8 A)):(loadVar 151 ⟨n,0,none⟩).run Tryz.prog w=.ok (.agg #[U8 a,U8 A]) w:=by
 refine run_loadVar_mid w n 0 151 [U8 a,U8 A] _ ?_ Tryz.underlying151 rfl (by kernel_rfl);intro j v b;rw [Nat.zero_add];have d:j<2:=(List.getElem?_eq_some_iff.1 b).1
 have c:j=0∨j=1:=by omega
 rcases c with rfl|rfl<;>simp at b<;>subst b<;>assumption
structure Ty where
 k:Int
 lo:Int
 hi:Int
 m:Int
def eqT (a b:Ty):Bool:=decide (a.k=b.k)&&decide (a.lo=b.lo)&&decide (a.hi=b.hi)&&decide (a.m=b.m)
theorem eqT_iff (a b:Ty):eqT a b=true↔a=b:=by
 cases a;cases b
 simp [eqT,and_assoc]
def Ty.nil:Ty:=⟨0,0,0,0⟩
abbrev tyC (t:Ty):List Value:=[.int .i64 t.k,.int .u64 t.lo,.int .u64 t.hi,.int .i64 t.m]
abbrev tyV (t:Ty):Value:=.agg #[.int .i64 t.k,.int .u64 t.lo,.int .u64 t.hi,.int .i64 t.m]
def AtT (w:World) (b off:Nat) (t:Ty):Prop:=w.cell? ⟨b,off,none⟩=some (.int .i64 t.k)/\w.cell? ⟨b,off+1,none⟩=some (.int .u64 t.lo)/\w.cell? ⟨b,off+2,none⟩=some (.int .u64 t.hi)/\w.cell? ⟨b,off+3,none⟩=some (.int .i64 t.m)
theorem AtT.below {w d:World}{b off B:Nat}{t:Ty}(h:AtT w b off t)(c:Below B w d)(a:b<B):AtT d b off t:=by
 unfold AtT;rw [c.cell (p:=⟨b,off,none⟩) a,c.cell (p:=⟨b,off+1,none⟩) a,c.cell (p:=⟨b,off+2,none⟩) a,c.cell (p:=⟨b,off+3,none⟩) a];exact h
def SeesT (w:World) (v:Value) (xs:List Ty):Prop :=
 ∃ a cap,v=.slice a xs.length cap/\xs.length<=cap/\cap<=maxLen/\(a=none->cap=0) /\
  (xs≠[]->∃ b off,a=some ⟨b,off,none⟩/\b<w.heap.size/\∀ k,k<xs.length->AtT w b (off+k*4) (xs.getD k Ty.nil))
theorem SeesT.below {w g:World}{v:Value}{xs:List Ty}(h:SeesT w v xs)(d:Bw w g):SeesT g v xs:=by
 obtain ⟨a,cap,rfl,r,o,n,l⟩:=h;refine ⟨a,cap,rfl,r,o,n,fun i=>?_⟩;obtain ⟨b,off,rfl,c,f⟩:=l i;exact ⟨b,off,rfl,Nat.lt_of_lt_of_le c d.size,fun k s=>(f k s).below d c⟩
theorem SeesT.shape {w:World}{v:Value}{xs:List Ty}(h:SeesT w v xs):∃ a cap,v=.slice a xs.length cap:=by
 obtain ⟨a,cap,rfl,_⟩:=h;exact ⟨a,cap,rfl⟩
theorem SeesT.nil (w:World):SeesT w (.slice none 0 0) []:=⟨none,0,rfl,by simp,by simp [maxLen],fun _=>rfl,fun h=>absurd rfl h⟩
def flatT (xs:List Ty):List Value:=xs.flatMap tyC
theorem flatT_app (l m:List Ty):flatT l++flatT m=flatT (l++m):=by simp [flatT]
theorem flatT_len (xs:List Ty):(flatT xs).length=xs.length*4:=by
 induction xs with
 | nil=>rfl
 | cons x xs ih =>
  have e:flatT (x :: xs)=tyC x++flatT xs:=rfl;rw [e,List.length_append,ih,List.length_cons]
  simp;omega
theorem flatT_at:∀ (xs:List Ty)(k j:Nat),k<xs.length->j<4->(flatT xs)[k*4+j]? = (tyC (xs.getD k Ty.nil))[j]?
 | [],k,j,hk,_=>by simp at hk
 | x :: xs,0,j,_,hj=>by
  have e:flatT (x :: xs)=tyC x++flatT xs:=rfl;rw [e,List.getElem?_append_left (by simp [tyC];omega)]
  simp
 | x :: xs,k+1,j,hk,hj=>by
  have e:flatT (x :: xs)=tyC x++flatT xs:=rfl;have a:(tyC x).length=4:=rfl;rw [e,List.getElem?_append_right (by rw [a];omega),a,show (k+1)*4+j-4=k*4+j by omega,flatT_at xs k j (by simpa using hk) hj]
  simp [List.getD]
theorem atT_cells {w:World}{b off:Nat}{p:Ty}(h:AtT w b off p)(j:Nat)(g:j<4):w.cell? ⟨b,off+j,none⟩=(tyC p)[j]? := by
 obtain ⟨h0,d,f,c⟩:=h
 have a:j=0∨j=1∨j=2∨j=3:=by omega
 rcases a with rfl|rfl|rfl|rfl
 ·exact h0
 ·exact d
 ·exact f
 ·exact c
theorem cells_atT {w:World}{b off:Nat}{p:Ty}(h:∀ j,j<4->w.cell? ⟨b,off+j,none⟩=(tyC p)[j]?):AtT w b off p:=⟨h 0 (by omega),h 1 (by omega),h 2 (by omega),h 3 (by omega)⟩
theorem flatT_cells {w:World}{b off:Nat}{xs:List Ty}(h:∀ k,k<xs.length->AtT w b (off+k*4) (xs.getD k Ty.nil))(j:Nat)(u:Value)(a:(flatT xs)[j]? = some u):w.cell? ((⟨b,off,none⟩:Addr).add j)=some u:=by
 have c:j<xs.length*4:=by rw [<- flatT_len];exact (List.getElem?_eq_some_iff.1 a).1
 have e:j=(j / 4)*4+j%4:=by omega
 rw [e,flatT_at xs (j / 4) (j%4) (by omega) (by omega)] at a;rw [Addr.add_mid,<- a,<- atT_cells (h (j / 4) (by omega)) (j%4) (by omega)]
 congr 2
 omega
theorem flatT_one (xs:List Ty):∀ u∈flatT xs,u.oneCell'=true:=by
 intro u a;simp only [flatT,List.mem_flatMap] at a;obtain ⟨i,_,hi⟩:=a;simp only [tyC,List.mem_cons,List.not_mem_nil,or_false] at hi
 rcases hi with rfl|rfl|rfl|rfl<;>rfl
theorem qCs {w:World}{base:Nat}{e:TypeId}{v:Value}{xs:List Ty}(h:w.ownsRow base e 4 v xs.length (flatT xs)):SeesT w v xs:=by
 have h0:=h
 rcases h with ⟨r,⟨rfl,d⟩|⟨g,cap,l,rfl,o,a,c,b,u,s⟩⟩
 ·have:xs=[]:=List.eq_nil_of_length_eq_zero d;subst this;exact SeesT.nil w
 ·refine ⟨_,cap,rfl,c,b,fun h=>by simp at h,fun n=>⟨g,0,rfl,(Array.getElem?_eq_some_iff.1 a).1,fun k f=>cells_atT fun j i=>?_⟩⟩;rw [Nat.zero_add,h0.cellAt (k*4+j) (by omega)];exact flatT_at xs k j f i
theorem ownT_empty (w:World)(e:TypeId):(w.alloc (.cells #[] e)).ownsRow w.heap.size e 4 (.slice (some ⟨w.heap.size,0,none⟩) 0 0) 0 (flatT []):=by
 refine ⟨rfl,.inr ⟨w.heap.size,0,#[],rfl,Nat.le_refl _,?_,Nat.le_refl _,by simp [maxLen],rfl,rfl⟩⟩
 show (w.heap.push _)[w.heap.size]? = _
 simp
theorem ownT_lit (w:World)(base:Nat)(t:TypeId)(xs:List Ty)(cs:Array Value)(n g:Nat)(b:g=w.heap.size)(d:base<=w.heap.size)(a:cs=(flatT xs).toArray)(c:n=xs.length)(hm:xs.length<=1048576):(w.alloc (.cells cs t)).ownsRow base t 4 (.slice (some ⟨g,0,none⟩) n n) xs.length (flatT xs):=by
 subst c a b;refine ⟨flatT_len xs,.inr ⟨w.heap.size,xs.length,(flatT xs).toArray,rfl,d,?_,Nat.le_refl _,by unfold maxLen;omega,?_,?_⟩⟩
 ·show (w.heap.push _)[w.heap.size]? = _
  simp
 ·rw [List.size_toArray,flatT_len]
 ·rw [<- flatT_len];simp
theorem SeesT.lit (w:World)(t:TypeId)(xs:List Ty)(cs:Array Value)(n:Nat)(a:cs=(flatT xs).toArray)(b:n=xs.length)(hm:xs.length<=1048576):SeesT (w.alloc (.cells cs t)) (.slice (some ⟨w.heap.size,0,none⟩) n n) xs :=
 qCs (ownT_lit w w.heap.size t xs cs n _ rfl (Nat.le_refl _) a b hm)
theorem qAw {P:Program}{w:World}{B:Array Oper}{r:List Oper}{o:Oper}{a:Act}{Q:Exit->Act->World->Prop}(S:o.guard=none)(s x:Operand)(t:TypeId)(I:o.op=.call { callee:=.builtin .append,args:=#[s,x],argTypes:=#[t,t] })(base:Nat)(e:TypeId)(i:TypeInfo)(z:Value)(G:P.underlying t=some (.slice e))(hi:P.info? e=some i)(T:i.zero=some z)(k:i.size=4)(y:i.bytes=32)(D:z.cells.size=4)(v:Value)(xs:List Ty)(O:a.eval s=v)(d:w.ownsRow base e 4 v xs.length (flatT xs))(A:Value)(c:List Ty)(M:a.eval x=A)(J:SeesT w A c)(E:xs.length+c.length<=maxLen)(f:(xs.length+c.length)*32<=140737488355328)(l:base<=w.heap.size)(h:∀ n g,g.ownsRow base e 4 n (xs++c).length (flatT (xs++c))->w.grownBy g v.ownBlock->wpList P B Q r (a.put o.dst n) g):wpList P B Q (o :: r) a w:=by
 refine wpList_plain S fun K hK=>?_
 obtain ⟨N,cap,rfl,Z,hm,V,X⟩:=J
 by_cases hne:c=[]
 ·subst hne
  cases N with
  | none =>
   obtain rfl:cap=0:=V rfl;have F:=run_append_owned_none (P:=P) (w:=w) base t o.type e i 4 G hi v _ _ d;have U:a.eval x=.slice none 0 0:=M;unfold Oper.wp
   simp [execOp,I,resolve,invoke,builtin,O,U,F,Result.andThen]
   exact hK _ _ (h v w (by simpa using d) ⟨rfl,rfl,rfl,Nat.le_refl _,fun _ _ _=>rfl⟩)
  | some N =>
   refine wp_append_own w s x t I base e i z 4 32 G hi T k y D (by decide) v _ _ O d N 0 cap [] M rfl (by simp) (by simp) (by simpa using E) (by simpa using f) l ?_;intro n g u L _;exact hK _ _ (h n g (by simpa using u) L)
 ·obtain ⟨b,off,rfl,Y,R⟩:=X hne;refine wp_append_own w s x t I base e i z 4 32 G hi T k y D (by decide) v _ _ O d ⟨b,off,none⟩ c.length cap (flatT c) M (flatT_len c) (flatT_cells R) (flatT_one c) E f l ?_;intro n g u L _;exact hK _ _ (h n g (by rw [flatT_app,<- List.length_append] at u;exact u) L)
def cutT (a:Option Addr) (l h m:Nat):Value:=.slice (if m=l then a else a.map (·.add (l*4))) (h-l) (m-l)
theorem SeesT.cut {w:World}{a:Option Addr}{cap:Nat}{xs:List Ty}(h:SeesT w (.slice a xs.length cap) xs)(l c m:Nat)(G:l<=c)(s:c<=xs.length)(hm:c<=m)(J:m<=cap):SeesT w (cutT a l c m) ((xs.take c).drop l):=by
 obtain ⟨y,f,A,K,I,F,E⟩:=h
 obtain ⟨rfl,_,rfl⟩:a=y/\xs.length=xs.length/\cap=f:=by injection A with g D u;exact ⟨g,D,u⟩
 have d:((xs.take c).drop l).length=c-l:=by simp;omega
 refine ⟨_,m-l,by rw [d];rfl,by omega,by omega,fun n=>?_,fun o=>?_⟩
 ·split at n
  ·omega
  ·have:a=none:=by simpa using n
   have:=F this
   omega
 ·have z:l<c:=by
   rcases Nat.lt_or_ge l c with h|h
   ·exact h
   ·exact absurd (List.eq_nil_of_length_eq_zero (by rw [d];omega)) o
  obtain ⟨b,off,rfl,r,i⟩:=E (fun e=>by rw [e] at s;simp at s;omega);refine ⟨b,off+l*4,by rw [if_neg (by omega)];simp [Addr.add_mid],r,fun k B=>?_⟩;rw [d] at B;have:=i (l+k) (by omega)
  have g:((xs.take c).drop l).getD k Ty.nil=xs.getD (l+k) Ty.nil:=by
   simp only [List.getD_eq_getElem?_getD,List.getElem?_drop,List.getElem?_take];rw [if_pos (by omega)]
  rw [g,show off+l*4+k*4=off+(l+k)*4 by omega];exact this
abbrev tyO (t:Ty):Obj:=.cells #[.int .i64 t.k,.int .u64 t.lo,.int .u64 t.hi,.int .i64 t.m] 153
theorem qCm {w:World}{n off:Nat}{k lo hi m:Int}(h:AtT w n off ⟨k,lo,hi,m⟩):(loadVar 153 ⟨n,off,none⟩).run Tryz.prog w=.ok (.agg #[I4 k,U8 lo,U8 hi,I4 m]) w:=by
 refine run_loadVar_mid w n off 153 [I4 k,U8 lo,U8 hi,I4 m] _ ?_ Tryz.underlying153 rfl (by kernel_rfl);intro j v a;have b:j<4:=(List.getElem?_eq_some_iff.1 a).1;exact (atT_cells h j b).trans a
theorem rb {a b:Bool}(h:a=b):Ending.returned (.bool a)=.returned (.bool b):=by rw [h]
def hasN (a A n:Int):Bool:=decide (a<=A)&&decide (a<=n)&&decide (n<=A)
def withinB (a A b B:Int):Bool:=decide (a<=A)&&decide (b<=B)&&hasN b B a&&hasN b B A
theorem qAe (a A:Int)(w:World):Cl 146 #[.agg #[U8 a,U8 A]] w fun e b=>e=.returned (.bool (decide (a<=A)))/\w.alloc (spO a A)=b:=by
 by_cases h:A<a
 ·have c:decide (a<=A)=false:=decide_eq_false (by omega);go_enter Tryz.func146,Tryz.ntmps146;go_wp2;go_ret;exact ⟨rb (by simp [h]),rfl⟩
 ·have c:decide (a<=A)=true:=decide_eq_true (by omega);go_enter Tryz.func146,Tryz.ntmps146;go_wp2;go_ret;exact ⟨rb (by simp),rfl⟩
theorem qBc (a A n:Int)(w:World):Cl 147 #[.agg #[U8 a,U8 A],U8 n] w fun e b=>e=.returned (.bool (hasN a A n))/\(w.alloc (spO a A)).alloc (spO a A)=b:=by
 go_enter Tryz.func147,Tryz.ntmps147
 go_wp2_with (go_at_call 146;go_must (refine (qAe a A _).mono ?_);rintro e b ⟨rfl,rfl⟩)
 all_goals go_ret
 ·exact ⟨rb (by simp [hasN, *]),rfl⟩
 ·exact ⟨rb (by simp [hasN];omega),rfl⟩
 ·exact ⟨rb (by simp [hasN];omega),rfl⟩
theorem rwithin_any (a A b B:Int)(w:World):Cl 125 #[.agg #[U8 a,U8 A],.agg #[U8 b,U8 B]] w fun e d=>e=.returned (.bool (withinB a A b B))/\Bw w d:=by
 obtain ⟨s,g⟩:∃ r,Hid (r=decide (a<=A)):=⟨_,rfl⟩;obtain ⟨n,f⟩:∃ r,Hid (r=decide (b<=B)):=⟨_,rfl⟩;obtain ⟨o,k⟩:∃ r,Hid (r=hasN b B a):=⟨_,rfl⟩;obtain ⟨u,i⟩:∃ r,Hid (r=hasN b B A):=⟨_,rfl⟩
 have E:Hid (withinB a A b B=(s&&n&&o&&u)):=by show _=_;rw [g.out,f.out,k.out,i.out];rfl
 have D:=g;have y:=f;have z:=k;have l:=i
 cases s<;>cases n<;>cases o<;>cases u
 all_goals go_enter Tryz.func125,Tryz.ntmps125
 all_goals go_wp2_with (first
  | (go_at_call 146;have c:=D;clear c;go_must (refine (qAe a A _).mono ?_);rintro e d ⟨rfl,rfl⟩;rw [<- g.out];clear D)
  | (go_at_call 146;have c:=y;clear c;go_must (refine (qAe b B _).mono ?_);rintro e d ⟨rfl,rfl⟩;rw [<- f.out];clear y)
  | (go_at_call 147;have c:=z;clear c;go_must (refine (qBc b B a _).mono ?_);rintro e d ⟨rfl,rfl⟩;rw [<- k.out];clear z)
  | (go_at_call 147;have c:=l;clear c;go_must (refine (qBc b B A _).mono ?_);rintro e d ⟨rfl,rfl⟩;rw [<- i.out];clear l))
 all_goals go_ret
 all_goals exact ⟨rb (by rw [E.out];rfl),by go_grown⟩
theorem great_iff {a b:Int}(c:0<a):decide (18446744073709551615 / a<b)=decide (18446744073709551615<a*b):=by
 apply decide_eq_decide.2
 rw [Int.ediv_lt_iff_lt_mul c,Int.mul_comm]
theorem qAo (a b:Int)(w:World)(f:0<=a/\a<=18446744073709551615)(g:0<=b/\b<=18446744073709551615) :
  Cl 158 #[U8 a,U8 b] w fun e c=>e=.returned (.bool (decide (18446744073709551615<a*b)))/\w=c:=by
 by_cases h:0<a
 ·rw [<- great_iff h]
  have d:¬ a=0:=by omega
  go_enter Tryz.func158,Tryz.ntmps158;go_wp2;go_ret;exact ⟨rfl,rfl⟩
 ·obtain rfl:a=0:=by omega
  go_enter Tryz.func158,Tryz.ntmps158;go_wp2;go_ret;exact ⟨rb (by simp),rfl⟩
theorem qAq (n:Int)(w:World)(f:0<=n/\n<=18446744073709551615) :
  Cl 159 #[U8 n] w fun e o=>e=.returned (U8 (formL n))/\w=o:=by
 go_enter Tryz.func159,Tryz.ntmps159;go_wp2
 go_loop [3] (fun m=>∃ (k:Nat) (M:Int),k<=64/\m=U8 M/\M=2 ^ k-1/\0<=M/\M<=18446744073709551615/\(0<k->(2:Int) ^ (k-1)<=n)) (fun m=>18446744073709551615-(intOf m).toNat)
 case atStart=>exact ⟨0,0,by omega,rfl,by simp,by omega,by omega,fun h=>absurd h (by omega)⟩
 case round =>
  obtain ⟨k,M,u,rfl,b,r,s,a⟩:=hrel
  by_cases hlt:M<n
  ·have c:k<64:=by
    rcases Nat.lt_or_ge k 64 with h|h
    ·exact h
    ·obtain rfl:k=64:=by omega
     have e:(2:Int) ^ 64=18446744073709551616:=by decide
     rw [e] at b;omega
   have l:=pow_half c
   have d:Hid (2*M+1=2 ^ (k+1)-1/\(0<k+1->(2:Int) ^ (k+1-1)<=n)):=by
    refine ⟨by rw [Int.pow_succ];omega,fun _=>?_⟩;rw [Nat.add_sub_cancel];omega
   have i:2*M+1<=18446744073709551615:=by omega
   clear b a l;go_wp2
   go_round
   case rel=>exact ⟨k+1,2*M+1,by omega,rfl,d.out.1,by omega,i,d.out.2⟩
   case measure=>simp [intOf];omega
  ·have g:Hid (M=formL n):=by
    rw [form_eq (k:=k) f.1 f.2 (by omega) a];exact b
   clear b a;go_wp2;go_ret;exact ⟨ret1 g.out,rfl⟩
theorem half_any (a b:Int)(w:World)(g:0<=a/\a<=18446744073709551615)(n:0<=b/\b<=18446744073709551615) :
  Cl 161 #[U8 a,U8 b] w fun e r=>e=.returned (U8 (a / 2 ^ min b.toNat 64))/\w=r:=by
 obtain ⟨B,rfl⟩:=Int.eq_ofNat_of_zero_le n.1;rw [Int.toNat_natCast];go_enter Tryz.func161,Tryz.ntmps161;go_wp2
 go_loop [0,5] (fun u i=>∃ (k:Nat) (A:Int),k<=B/\i=U8 k/\u=U8 A/\0<=A/\A<=18446744073709551615/\A=a / 2 ^ k) (fun _ i=>B-(intOf i).toNat)
 case atStart=>exact ⟨0,a,by omega,rfl,rfl,by omega,by omega,by simp⟩
 case round =>
  obtain ⟨k,A,s,rfl,rfl,hA0,y,hA⟩:=hrel;have c:Hid (A=a / 2 ^ k):=hA;clear hA
  by_cases hlt:k<B/\0<A
  ·obtain ⟨o,z⟩:=hlt
   have l:Hid (A / 2=a / 2 ^ (k+1)):=by rw [c.out,div_pow_add];rfl
   clear c;go_wp2
   go_round
   case rel=>exact ⟨k+1,_,by omega,by go_num,rfl,by omega,by omega,l.out⟩
   case measure=>simp [intOf];omega
  ·have d:Hid (A=a / 2 ^ min B 64):=by
    rw [c.out]
    exact till_zero (f:=fun i=>a / 2 ^ i) (shr_zero a g.1 g.2) (shr_stays a) s (by
     by_cases h:k=B
     ·exact .inl h
     ·exact .inr (by show _=(0:Int);rw [<- c.out];omega))
   clear c
   by_cases o:k<B
   ·obtain rfl:A=0:=by omega
    go_wp2;go_ret;exact ⟨ret1 d.out,rfl⟩
   ·go_wp2;go_ret;exact ⟨ret1 d.out,rfl⟩
theorem sref_less1_18 (a A n:Int)(w:World)(c:0<=a/\a<=A/\A<=18446744073709551615)(d:0<=n/\n<=18446744073709551615)(h:n<=a) :
  Cl 145 #[I4 18,.agg #[U8 a,U8 A],.agg #[U8 n,U8 n],.bool true] w fun e b=>e=.returned (.tuple #[.agg #[U8 (0),U8 (0)],.bool false])/\Bw w b:=by
 have f:decide (a<=A)=true:=decide_eq_true c.2.1;have g:decide (n<=n)=true:=decide_eq_true (Int.le_refl _);go_enter Tryz.func145,Tryz.ntmps145
 go_wp2_with (first
  | (go_at_call 146;go_must (refine (qAe _ _ _).mono ?_);rintro e b ⟨rfl,rfl⟩)
  | (go_at_call 147;go_must (refine (qBc _ _ _ _).mono ?_);rintro e b ⟨rfl,rfl⟩))
 refine bodyPost_ret (v:=.tuple #[.agg #[U8 (0),U8 (0)],.bool false]) ?_ rfl ⟨rfl,by go_grown⟩;rw [results_cell_tmp rfl]
 simp [asAddr,Result.andThen]
 rw [qAc (a:=0) (A:=0)]
 all_goals go_cell
theorem sref_less2_18 (a A n:Int)(w:World)(c:0<=a/\a<=A/\A<=18446744073709551615)(d:0<=n/\n<=18446744073709551615)(h:a<n)(f:IntKind.u64.wrap (n-1)=n-1)(hm:A<=n-1) :
  Cl 145 #[I4 18,.agg #[U8 a,U8 A],.agg #[U8 n,U8 n],.bool true] w fun e b=>e=.returned (.tuple #[.agg #[U8 (a),U8 (A)],.bool true])/\Bw w b:=by
 have g:decide (a<=A)=true:=decide_eq_true c.2.1;have i:decide (n<=n)=true:=decide_eq_true (Int.le_refl _);go_enter Tryz.func145,Tryz.ntmps145
 go_wp2_with (first
  | (go_at_call 146;go_must (refine (qAe _ _ _).mono ?_);rintro e b ⟨rfl,rfl⟩)
  | (go_at_call 147;go_must (refine (qBc _ _ _ _).mono ?_);rintro e b ⟨rfl,rfl⟩))
 refine bodyPost_ret (v:=.tuple #[.agg #[U8 (a),U8 (A)],.bool true]) ?_ rfl ⟨rfl,by go_grown⟩;rw [results_cell_tmp rfl]
 simp [asAddr,Result.andThen]
 rw [qAc (a:=a) (A:=A)]
 all_goals go_cell
theorem sref_less3_18 (a A n:Int)(w:World)(c:0<=a/\a<=A/\A<=18446744073709551615)(d:0<=n/\n<=18446744073709551615)(h:a<n)(f:IntKind.u64.wrap (n-1)=n-1)(hm:n-1<A) :
  Cl 145 #[I4 18,.agg #[U8 a,U8 A],.agg #[U8 n,U8 n],.bool true] w fun e b=>e=.returned (.tuple #[.agg #[U8 (a),U8 (n-1)],.bool true])/\Bw w b:=by
 have g:decide (a<=A)=true:=decide_eq_true c.2.1;have i:decide (n<=n)=true:=decide_eq_true (Int.le_refl _);go_enter Tryz.func145,Tryz.ntmps145
 go_wp2_with (first
  | (go_at_call 146;go_must (refine (qAe _ _ _).mono ?_);rintro e b ⟨rfl,rfl⟩)
  | (go_at_call 147;go_must (refine (qBc _ _ _ _).mono ?_);rintro e b ⟨rfl,rfl⟩))
 refine bodyPost_ret (v:=.tuple #[.agg #[U8 (a),U8 (n-1)],.bool true]) ?_ rfl ⟨rfl,by go_grown⟩;rw [results_cell_tmp rfl]
 simp [asAddr,Result.andThen]
 rw [qAc (a:=a) (A:=n-1)]
 all_goals go_cell
theorem sref_less1_19 (a A n:Int)(w:World)(c:0<=a/\a<=A/\A<=18446744073709551615)(d:0<=n/\n<=18446744073709551615)(h:n<=a) :
  Cl 145 #[I4 19,.agg #[U8 a,U8 A],.agg #[U8 n,U8 n],.bool false] w fun e b=>e=.returned (.tuple #[.agg #[U8 (0),U8 (0)],.bool false])/\Bw w b:=by
 have f:decide (a<=A)=true:=decide_eq_true c.2.1;have g:decide (n<=n)=true:=decide_eq_true (Int.le_refl _);go_enter Tryz.func145,Tryz.ntmps145
 go_wp2_with (first
  | (go_at_call 146;go_must (refine (qAe _ _ _).mono ?_);rintro e b ⟨rfl,rfl⟩)
  | (go_at_call 147;go_must (refine (qBc _ _ _ _).mono ?_);rintro e b ⟨rfl,rfl⟩))
 refine bodyPost_ret (v:=.tuple #[.agg #[U8 (0),U8 (0)],.bool false]) ?_ rfl ⟨rfl,by go_grown⟩;rw [results_cell_tmp rfl]
 simp [asAddr,Result.andThen]
 rw [qAc (a:=0) (A:=0)]
 all_goals go_cell
theorem sref_less2_19 (a A n:Int)(w:World)(c:0<=a/\a<=A/\A<=18446744073709551615)(d:0<=n/\n<=18446744073709551615)(h:a<n)(f:IntKind.u64.wrap (n-1)=n-1)(hm:A<=n-1) :
  Cl 145 #[I4 19,.agg #[U8 a,U8 A],.agg #[U8 n,U8 n],.bool false] w fun e b=>e=.returned (.tuple #[.agg #[U8 (a),U8 (A)],.bool true])/\Bw w b:=by
 have g:decide (a<=A)=true:=decide_eq_true c.2.1;have i:decide (n<=n)=true:=decide_eq_true (Int.le_refl _);go_enter Tryz.func145,Tryz.ntmps145
 go_wp2_with (first
  | (go_at_call 146;go_must (refine (qAe _ _ _).mono ?_);rintro e b ⟨rfl,rfl⟩)
  | (go_at_call 147;go_must (refine (qBc _ _ _ _).mono ?_);rintro e b ⟨rfl,rfl⟩))
 refine bodyPost_ret (v:=.tuple #[.agg #[U8 (a),U8 (A)],.bool true]) ?_ rfl ⟨rfl,by go_grown⟩;rw [results_cell_tmp rfl]
 simp [asAddr,Result.andThen]
 rw [qAc (a:=a) (A:=A)]
 all_goals go_cell
theorem sref_less3_19 (a A n:Int)(w:World)(c:0<=a/\a<=A/\A<=18446744073709551615)(d:0<=n/\n<=18446744073709551615)(h:a<n)(f:IntKind.u64.wrap (n-1)=n-1)(hm:n-1<A) :
  Cl 145 #[I4 19,.agg #[U8 a,U8 A],.agg #[U8 n,U8 n],.bool false] w fun e b=>e=.returned (.tuple #[.agg #[U8 (a),U8 (n-1)],.bool true])/\Bw w b:=by
 have g:decide (a<=A)=true:=decide_eq_true c.2.1;have i:decide (n<=n)=true:=decide_eq_true (Int.le_refl _);go_enter Tryz.func145,Tryz.ntmps145
 go_wp2_with (first
  | (go_at_call 146;go_must (refine (qAe _ _ _).mono ?_);rintro e b ⟨rfl,rfl⟩)
  | (go_at_call 147;go_must (refine (qBc _ _ _ _).mono ?_);rintro e b ⟨rfl,rfl⟩))
 refine bodyPost_ret (v:=.tuple #[.agg #[U8 (a),U8 (n-1)],.bool true]) ?_ rfl ⟨rfl,by go_grown⟩;rw [results_cell_tmp rfl]
 simp [asAddr,Result.andThen]
 rw [qAc (a:=a) (A:=n-1)]
 all_goals go_cell
theorem sref_from1_18 (a A n:Int)(w:World)(c:0<=a/\a<=A/\A<=18446744073709551615)(d:0<=n/\n<=18446744073709551615)(h:A<n) :
  Cl 145 #[I4 18,.agg #[U8 a,U8 A],.agg #[U8 n,U8 n],.bool false] w fun e b=>e=.returned (.tuple #[.agg #[U8 (0),U8 (0)],.bool false])/\Bw w b:=by
 have f:decide (a<=A)=true:=decide_eq_true c.2.1;have g:decide (n<=n)=true:=decide_eq_true (Int.le_refl _);go_enter Tryz.func145,Tryz.ntmps145
 go_wp2_with (first
  | (go_at_call 146;go_must (refine (qAe _ _ _).mono ?_);rintro e b ⟨rfl,rfl⟩)
  | (go_at_call 147;go_must (refine (qBc _ _ _ _).mono ?_);rintro e b ⟨rfl,rfl⟩))
 refine bodyPost_ret (v:=.tuple #[.agg #[U8 (0),U8 (0)],.bool false]) ?_ rfl ⟨rfl,by go_grown⟩;rw [results_cell_tmp rfl]
 simp [asAddr,Result.andThen]
 rw [qAc (a:=0) (A:=0)]
 all_goals go_cell
theorem sref_from2_18 (a A n:Int)(w:World)(c:0<=a/\a<=A/\A<=18446744073709551615)(d:0<=n/\n<=18446744073709551615)(h:n<=A)(hm:a<n) :
  Cl 145 #[I4 18,.agg #[U8 a,U8 A],.agg #[U8 n,U8 n],.bool false] w fun e b=>e=.returned (.tuple #[.agg #[U8 (n),U8 (A)],.bool true])/\Bw w b:=by
 have f:decide (a<=A)=true:=decide_eq_true c.2.1;have g:decide (n<=n)=true:=decide_eq_true (Int.le_refl _);go_enter Tryz.func145,Tryz.ntmps145
 go_wp2_with (first
  | (go_at_call 146;go_must (refine (qAe _ _ _).mono ?_);rintro e b ⟨rfl,rfl⟩)
  | (go_at_call 147;go_must (refine (qBc _ _ _ _).mono ?_);rintro e b ⟨rfl,rfl⟩))
 refine bodyPost_ret (v:=.tuple #[.agg #[U8 (n),U8 (A)],.bool true]) ?_ rfl ⟨rfl,by go_grown⟩;rw [results_cell_tmp rfl]
 simp [asAddr,Result.andThen]
 rw [qAc (a:=n) (A:=A)]
 all_goals go_cell
theorem sref_from3_18 (a A n:Int)(w:World)(c:0<=a/\a<=A/\A<=18446744073709551615)(d:0<=n/\n<=18446744073709551615)(h:n<=A)(hm:n<=a) :
  Cl 145 #[I4 18,.agg #[U8 a,U8 A],.agg #[U8 n,U8 n],.bool false] w fun e b=>e=.returned (.tuple #[.agg #[U8 (a),U8 (A)],.bool true])/\Bw w b:=by
 have f:decide (a<=A)=true:=decide_eq_true c.2.1;have g:decide (n<=n)=true:=decide_eq_true (Int.le_refl _);go_enter Tryz.func145,Tryz.ntmps145
 go_wp2_with (first
  | (go_at_call 146;go_must (refine (qAe _ _ _).mono ?_);rintro e b ⟨rfl,rfl⟩)
  | (go_at_call 147;go_must (refine (qBc _ _ _ _).mono ?_);rintro e b ⟨rfl,rfl⟩))
 refine bodyPost_ret (v:=.tuple #[.agg #[U8 (a),U8 (A)],.bool true]) ?_ rfl ⟨rfl,by go_grown⟩;rw [results_cell_tmp rfl]
 simp [asAddr,Result.andThen]
 rw [qAc (a:=a) (A:=A)]
 all_goals go_cell
theorem sref_from1_19 (a A n:Int)(w:World)(c:0<=a/\a<=A/\A<=18446744073709551615)(d:0<=n/\n<=18446744073709551615)(h:A<n) :
  Cl 145 #[I4 19,.agg #[U8 a,U8 A],.agg #[U8 n,U8 n],.bool true] w fun e b=>e=.returned (.tuple #[.agg #[U8 (0),U8 (0)],.bool false])/\Bw w b:=by
 have f:decide (a<=A)=true:=decide_eq_true c.2.1;have g:decide (n<=n)=true:=decide_eq_true (Int.le_refl _);go_enter Tryz.func145,Tryz.ntmps145
 go_wp2_with (first
  | (go_at_call 146;go_must (refine (qAe _ _ _).mono ?_);rintro e b ⟨rfl,rfl⟩)
  | (go_at_call 147;go_must (refine (qBc _ _ _ _).mono ?_);rintro e b ⟨rfl,rfl⟩))
 refine bodyPost_ret (v:=.tuple #[.agg #[U8 (0),U8 (0)],.bool false]) ?_ rfl ⟨rfl,by go_grown⟩;rw [results_cell_tmp rfl]
 simp [asAddr,Result.andThen]
 rw [qAc (a:=0) (A:=0)]
 all_goals go_cell
theorem sref_from2_19 (a A n:Int)(w:World)(c:0<=a/\a<=A/\A<=18446744073709551615)(d:0<=n/\n<=18446744073709551615)(h:n<=A)(hm:a<n) :
  Cl 145 #[I4 19,.agg #[U8 a,U8 A],.agg #[U8 n,U8 n],.bool true] w fun e b=>e=.returned (.tuple #[.agg #[U8 (n),U8 (A)],.bool true])/\Bw w b:=by
 have f:decide (a<=A)=true:=decide_eq_true c.2.1;have g:decide (n<=n)=true:=decide_eq_true (Int.le_refl _);go_enter Tryz.func145,Tryz.ntmps145
 go_wp2_with (first
  | (go_at_call 146;go_must (refine (qAe _ _ _).mono ?_);rintro e b ⟨rfl,rfl⟩)
  | (go_at_call 147;go_must (refine (qBc _ _ _ _).mono ?_);rintro e b ⟨rfl,rfl⟩))
 refine bodyPost_ret (v:=.tuple #[.agg #[U8 (n),U8 (A)],.bool true]) ?_ rfl ⟨rfl,by go_grown⟩;rw [results_cell_tmp rfl]
 simp [asAddr,Result.andThen]
 rw [qAc (a:=n) (A:=A)]
 all_goals go_cell
theorem sref_from3_19 (a A n:Int)(w:World)(c:0<=a/\a<=A/\A<=18446744073709551615)(d:0<=n/\n<=18446744073709551615)(h:n<=A)(hm:n<=a) :
  Cl 145 #[I4 19,.agg #[U8 a,U8 A],.agg #[U8 n,U8 n],.bool true] w fun e b=>e=.returned (.tuple #[.agg #[U8 (a),U8 (A)],.bool true])/\Bw w b:=by
 have f:decide (a<=A)=true:=decide_eq_true c.2.1;have g:decide (n<=n)=true:=decide_eq_true (Int.le_refl _);go_enter Tryz.func145,Tryz.ntmps145
 go_wp2_with (first
  | (go_at_call 146;go_must (refine (qAe _ _ _).mono ?_);rintro e b ⟨rfl,rfl⟩)
  | (go_at_call 147;go_must (refine (qBc _ _ _ _).mono ?_);rintro e b ⟨rfl,rfl⟩))
 refine bodyPost_ret (v:=.tuple #[.agg #[U8 (a),U8 (A)],.bool true]) ?_ rfl ⟨rfl,by go_grown⟩;rw [results_cell_tmp rfl]
 simp [asAddr,Result.andThen]
 rw [qAc (a:=a) (A:=A)]
 all_goals go_cell
theorem sref_same1_16 (a A n:Int)(w:World)(c:0<=a/\a<=A/\A<=18446744073709551615)(d:0<=n/\n<=18446744073709551615)(h:hasN a A n=true) :
  Cl 145 #[I4 16,.agg #[U8 a,U8 A],.agg #[U8 n,U8 n],.bool true] w fun e b=>e=.returned (.tuple #[.agg #[U8 (n),U8 (n)],.bool true])/\Bw w b:=by
 have f:decide (a<=A)=true:=decide_eq_true c.2.1;have g:decide (n<=n)=true:=decide_eq_true (Int.le_refl _);go_enter Tryz.func145,Tryz.ntmps145
 go_wp2_with (first
  | (go_at_call 146;go_must (refine (qAe _ _ _).mono ?_);rintro e b ⟨rfl,rfl⟩)
  | (go_at_call 147;go_must (refine (qBc _ _ _ _).mono ?_);rintro e b ⟨rfl,rfl⟩))
 refine bodyPost_ret (v:=.tuple #[.agg #[U8 (n),U8 (n)],.bool true]) ?_ rfl ⟨rfl,by go_grown⟩;rw [results_cell_tmp rfl]
 simp [asAddr,Result.andThen]
 rw [qAc (a:=n) (A:=n)]
 all_goals go_cell
theorem sref_same2_16 (a A n:Int)(w:World)(c:0<=a/\a<=A/\A<=18446744073709551615)(d:0<=n/\n<=18446744073709551615)(h:hasN a A n=false) :
  Cl 145 #[I4 16,.agg #[U8 a,U8 A],.agg #[U8 n,U8 n],.bool true] w fun e b=>e=.returned (.tuple #[.agg #[U8 (0),U8 (0)],.bool false])/\Bw w b:=by
 have f:decide (a<=A)=true:=decide_eq_true c.2.1;have g:decide (n<=n)=true:=decide_eq_true (Int.le_refl _);go_enter Tryz.func145,Tryz.ntmps145
 go_wp2_with (first
  | (go_at_call 146;go_must (refine (qAe _ _ _).mono ?_);rintro e b ⟨rfl,rfl⟩)
  | (go_at_call 147;go_must (refine (qBc _ _ _ _).mono ?_);rintro e b ⟨rfl,rfl⟩))
 refine bodyPost_ret (v:=.tuple #[.agg #[U8 (0),U8 (0)],.bool false]) ?_ rfl ⟨rfl,by go_grown⟩;rw [results_cell_tmp rfl]
 simp [asAddr,Result.andThen]
 rw [qAc (a:=0) (A:=0)]
 all_goals go_cell
theorem sref_same1_17 (a A n:Int)(w:World)(c:0<=a/\a<=A/\A<=18446744073709551615)(d:0<=n/\n<=18446744073709551615)(h:hasN a A n=true) :
  Cl 145 #[I4 17,.agg #[U8 a,U8 A],.agg #[U8 n,U8 n],.bool false] w fun e b=>e=.returned (.tuple #[.agg #[U8 (n),U8 (n)],.bool true])/\Bw w b:=by
 have f:decide (a<=A)=true:=decide_eq_true c.2.1;have g:decide (n<=n)=true:=decide_eq_true (Int.le_refl _);go_enter Tryz.func145,Tryz.ntmps145
 go_wp2_with (first
  | (go_at_call 146;go_must (refine (qAe _ _ _).mono ?_);rintro e b ⟨rfl,rfl⟩)
  | (go_at_call 147;go_must (refine (qBc _ _ _ _).mono ?_);rintro e b ⟨rfl,rfl⟩))
 refine bodyPost_ret (v:=.tuple #[.agg #[U8 (n),U8 (n)],.bool true]) ?_ rfl ⟨rfl,by go_grown⟩;rw [results_cell_tmp rfl]
 simp [asAddr,Result.andThen]
 rw [qAc (a:=n) (A:=n)]
 all_goals go_cell
theorem sref_same2_17 (a A n:Int)(w:World)(c:0<=a/\a<=A/\A<=18446744073709551615)(d:0<=n/\n<=18446744073709551615)(h:hasN a A n=false) :
  Cl 145 #[I4 17,.agg #[U8 a,U8 A],.agg #[U8 n,U8 n],.bool false] w fun e b=>e=.returned (.tuple #[.agg #[U8 (0),U8 (0)],.bool false])/\Bw w b:=by
 have f:decide (a<=A)=true:=decide_eq_true c.2.1;have g:decide (n<=n)=true:=decide_eq_true (Int.le_refl _);go_enter Tryz.func145,Tryz.ntmps145
 go_wp2_with (first
  | (go_at_call 146;go_must (refine (qAe _ _ _).mono ?_);rintro e b ⟨rfl,rfl⟩)
  | (go_at_call 147;go_must (refine (qBc _ _ _ _).mono ?_);rintro e b ⟨rfl,rfl⟩))
 refine bodyPost_ret (v:=.tuple #[.agg #[U8 (0),U8 (0)],.bool false]) ?_ rfl ⟨rfl,by go_grown⟩;rw [results_cell_tmp rfl]
 simp [asAddr,Result.andThen]
 rw [qAc (a:=0) (A:=0)]
 all_goals go_cell
theorem sref_not1_16 (n:Int)(w:World)(c:0<=n/\n<=n/\n<=18446744073709551615)(d:0<=n/\n<=18446744073709551615)  :
  Cl 145 #[I4 16,.agg #[U8 n,U8 n],.agg #[U8 n,U8 n],.bool false] w fun e b=>e=.returned (.tuple #[.agg #[U8 (0),U8 (0)],.bool false])/\Bw w b:=by
 have f:decide (n<=n)=true:=decide_eq_true c.2.1;have g:decide (n<=n)=true:=decide_eq_true (Int.le_refl _);go_enter Tryz.func145,Tryz.ntmps145
 go_wp2_with (first
  | (go_at_call 146;go_must (refine (qAe _ _ _).mono ?_);rintro e b ⟨rfl,rfl⟩)
  | (go_at_call 147;go_must (refine (qBc _ _ _ _).mono ?_);rintro e b ⟨rfl,rfl⟩))
 refine bodyPost_ret (v:=.tuple #[.agg #[U8 (0),U8 (0)],.bool false]) ?_ rfl ⟨rfl,by go_grown⟩;rw [results_cell_tmp rfl]
 simp [asAddr,Result.andThen]
 rw [qAc (a:=0) (A:=0)]
 all_goals go_cell
theorem sref_not2_16 (A n:Int)(w:World)(c:0<=n/\n<=A/\A<=18446744073709551615)(d:0<=n/\n<=18446744073709551615)(h:(A==n)=false)(f:IntKind.u64.wrap (n+1)=n+1) :
  Cl 145 #[I4 16,.agg #[U8 n,U8 A],.agg #[U8 n,U8 n],.bool false] w fun e b=>e=.returned (.tuple #[.agg #[U8 (n+1),U8 (A)],.bool true])/\Bw w b:=by
 have g:decide (n<=A)=true:=decide_eq_true c.2.1;have i:decide (n<=n)=true:=decide_eq_true (Int.le_refl _);go_enter Tryz.func145,Tryz.ntmps145
 go_wp2_with (first
  | (go_at_call 146;go_must (refine (qAe _ _ _).mono ?_);rintro e b ⟨rfl,rfl⟩)
  | (go_at_call 147;go_must (refine (qBc _ _ _ _).mono ?_);rintro e b ⟨rfl,rfl⟩))
 refine bodyPost_ret (v:=.tuple #[.agg #[U8 (n+1),U8 (A)],.bool true]) ?_ rfl ⟨rfl,by go_grown⟩;rw [results_cell_tmp rfl]
 simp [asAddr,Result.andThen]
 rw [qAc (a:=n+1) (A:=A)]
 all_goals go_cell
theorem sref_not3_16 (a n:Int)(w:World)(c:0<=a/\a<=n/\n<=18446744073709551615)(d:0<=n/\n<=18446744073709551615)(h:(a==n)=false)(f:IntKind.u64.wrap (n-1)=n-1) :
  Cl 145 #[I4 16,.agg #[U8 a,U8 n],.agg #[U8 n,U8 n],.bool false] w fun e b=>e=.returned (.tuple #[.agg #[U8 (a),U8 (n-1)],.bool true])/\Bw w b:=by
 have g:decide (a<=n)=true:=decide_eq_true c.2.1;have i:decide (n<=n)=true:=decide_eq_true (Int.le_refl _);go_enter Tryz.func145,Tryz.ntmps145
 go_wp2_with (first
  | (go_at_call 146;go_must (refine (qAe _ _ _).mono ?_);rintro e b ⟨rfl,rfl⟩)
  | (go_at_call 147;go_must (refine (qBc _ _ _ _).mono ?_);rintro e b ⟨rfl,rfl⟩))
 refine bodyPost_ret (v:=.tuple #[.agg #[U8 (a),U8 (n-1)],.bool true]) ?_ rfl ⟨rfl,by go_grown⟩;rw [results_cell_tmp rfl]
 simp [asAddr,Result.andThen]
 rw [qAc (a:=a) (A:=n-1)]
 all_goals go_cell
theorem sref_not4_16 (a A n:Int)(w:World)(c:0<=a/\a<=A/\A<=18446744073709551615)(d:0<=n/\n<=18446744073709551615)(h:(a==n)=false)(f:(A==n)=false) :
  Cl 145 #[I4 16,.agg #[U8 a,U8 A],.agg #[U8 n,U8 n],.bool false] w fun e b=>e=.returned (.tuple #[.agg #[U8 (a),U8 (A)],.bool true])/\Bw w b:=by
 have g:decide (a<=A)=true:=decide_eq_true c.2.1;have i:decide (n<=n)=true:=decide_eq_true (Int.le_refl _);go_enter Tryz.func145,Tryz.ntmps145
 go_wp2_with (first
  | (go_at_call 146;go_must (refine (qAe _ _ _).mono ?_);rintro e b ⟨rfl,rfl⟩)
  | (go_at_call 147;go_must (refine (qBc _ _ _ _).mono ?_);rintro e b ⟨rfl,rfl⟩))
 refine bodyPost_ret (v:=.tuple #[.agg #[U8 (a),U8 (A)],.bool true]) ?_ rfl ⟨rfl,by go_grown⟩;rw [results_cell_tmp rfl]
 simp [asAddr,Result.andThen]
 rw [qAc (a:=a) (A:=A)]
 all_goals go_cell
theorem sref_not1_17 (n:Int)(w:World)(c:0<=n/\n<=n/\n<=18446744073709551615)(d:0<=n/\n<=18446744073709551615)  :
  Cl 145 #[I4 17,.agg #[U8 n,U8 n],.agg #[U8 n,U8 n],.bool true] w fun e b=>e=.returned (.tuple #[.agg #[U8 (0),U8 (0)],.bool false])/\Bw w b:=by
 have f:decide (n<=n)=true:=decide_eq_true c.2.1;have g:decide (n<=n)=true:=decide_eq_true (Int.le_refl _);go_enter Tryz.func145,Tryz.ntmps145
 go_wp2_with (first
  | (go_at_call 146;go_must (refine (qAe _ _ _).mono ?_);rintro e b ⟨rfl,rfl⟩)
  | (go_at_call 147;go_must (refine (qBc _ _ _ _).mono ?_);rintro e b ⟨rfl,rfl⟩))
 refine bodyPost_ret (v:=.tuple #[.agg #[U8 (0),U8 (0)],.bool false]) ?_ rfl ⟨rfl,by go_grown⟩;rw [results_cell_tmp rfl]
 simp [asAddr,Result.andThen]
 rw [qAc (a:=0) (A:=0)]
 all_goals go_cell
theorem sref_not2_17 (A n:Int)(w:World)(c:0<=n/\n<=A/\A<=18446744073709551615)(d:0<=n/\n<=18446744073709551615)(h:(A==n)=false)(f:IntKind.u64.wrap (n+1)=n+1) :
  Cl 145 #[I4 17,.agg #[U8 n,U8 A],.agg #[U8 n,U8 n],.bool true] w fun e b=>e=.returned (.tuple #[.agg #[U8 (n+1),U8 (A)],.bool true])/\Bw w b:=by
 have g:decide (n<=A)=true:=decide_eq_true c.2.1;have i:decide (n<=n)=true:=decide_eq_true (Int.le_refl _);go_enter Tryz.func145,Tryz.ntmps145
 go_wp2_with (first
  | (go_at_call 146;go_must (refine (qAe _ _ _).mono ?_);rintro e b ⟨rfl,rfl⟩)
  | (go_at_call 147;go_must (refine (qBc _ _ _ _).mono ?_);rintro e b ⟨rfl,rfl⟩))
 refine bodyPost_ret (v:=.tuple #[.agg #[U8 (n+1),U8 (A)],.bool true]) ?_ rfl ⟨rfl,by go_grown⟩;rw [results_cell_tmp rfl]
 simp [asAddr,Result.andThen]
 rw [qAc (a:=n+1) (A:=A)]
 all_goals go_cell
theorem sref_not3_17 (a n:Int)(w:World)(c:0<=a/\a<=n/\n<=18446744073709551615)(d:0<=n/\n<=18446744073709551615)(h:(a==n)=false)(f:IntKind.u64.wrap (n-1)=n-1) :
  Cl 145 #[I4 17,.agg #[U8 a,U8 n],.agg #[U8 n,U8 n],.bool true] w fun e b=>e=.returned (.tuple #[.agg #[U8 (a),U8 (n-1)],.bool true])/\Bw w b:=by
 have g:decide (a<=n)=true:=decide_eq_true c.2.1;have i:decide (n<=n)=true:=decide_eq_true (Int.le_refl _);go_enter Tryz.func145,Tryz.ntmps145
 go_wp2_with (first
  | (go_at_call 146;go_must (refine (qAe _ _ _).mono ?_);rintro e b ⟨rfl,rfl⟩)
  | (go_at_call 147;go_must (refine (qBc _ _ _ _).mono ?_);rintro e b ⟨rfl,rfl⟩))
 refine bodyPost_ret (v:=.tuple #[.agg #[U8 (a),U8 (n-1)],.bool true]) ?_ rfl ⟨rfl,by go_grown⟩;rw [results_cell_tmp rfl]
 simp [asAddr,Result.andThen]
 rw [qAc (a:=a) (A:=n-1)]
 all_goals go_cell
theorem sref_not4_17 (a A n:Int)(w:World)(c:0<=a/\a<=A/\A<=18446744073709551615)(d:0<=n/\n<=18446744073709551615)(h:(a==n)=false)(f:(A==n)=false) :
  Cl 145 #[I4 17,.agg #[U8 a,U8 A],.agg #[U8 n,U8 n],.bool true] w fun e b=>e=.returned (.tuple #[.agg #[U8 (a),U8 (A)],.bool true])/\Bw w b:=by
 have g:decide (a<=A)=true:=decide_eq_true c.2.1;have i:decide (n<=n)=true:=decide_eq_true (Int.le_refl _);go_enter Tryz.func145,Tryz.ntmps145
 go_wp2_with (first
  | (go_at_call 146;go_must (refine (qAe _ _ _).mono ?_);rintro e b ⟨rfl,rfl⟩)
  | (go_at_call 147;go_must (refine (qBc _ _ _ _).mono ?_);rintro e b ⟨rfl,rfl⟩))
 refine bodyPost_ret (v:=.tuple #[.agg #[U8 (a),U8 (A)],.bool true]) ?_ rfl ⟨rfl,by go_grown⟩;rw [results_cell_tmp rfl]
 simp [asAddr,Result.andThen]
 rw [qAc (a:=a) (A:=A)]
 all_goals go_cell
theorem sdo_lo (op a A b B:Int)(w:World)(h:op<1) :
  Cl 143 #[I4 op,.agg #[U8 a,U8 A],.agg #[U8 b,U8 B]] w fun e c=>e=.returned (.tuple #[.agg #[U8 (0),U8 (0)],.bool false])/\Bw w c:=by
 go_enter Tryz.func143,Tryz.ntmps143
 go_wp2_with (go_at_call 146;go_must (refine (qAe _ _ _).mono ?_);rintro e c ⟨rfl,rfl⟩)
 all_goals refine bodyPost_ret (v:=.tuple #[.agg #[U8 (0),U8 (0)],.bool false]) ?_ rfl ⟨rfl,by go_grown⟩
 all_goals rw [results_cell_tmp rfl]
 all_goals simp [asAddr,Result.andThen]
 all_goals rw [qAc (a:=0) (A:=0)]
 all_goals go_cell
theorem sdo_hi (op a A b B:Int)(w:World)(h:¬ op<1)(d:10<op) :
  Cl 143 #[I4 op,.agg #[U8 a,U8 A],.agg #[U8 b,U8 B]] w fun e c=>e=.returned (.tuple #[.agg #[U8 (0),U8 (0)],.bool false])/\Bw w c:=by
 go_enter Tryz.func143,Tryz.ntmps143
 go_wp2_with (go_at_call 146;go_must (refine (qAe _ _ _).mono ?_);rintro e c ⟨rfl,rfl⟩)
 all_goals refine bodyPost_ret (v:=.tuple #[.agg #[U8 (0),U8 (0)],.bool false]) ?_ rfl ⟨rfl,by go_grown⟩
 all_goals rw [results_cell_tmp rfl]
 all_goals simp [asAddr,Result.andThen]
 all_goals rw [qAc (a:=0) (A:=0)]
 all_goals go_cell
theorem sdo_na (op a A b B:Int)(w:World)(h:1<=op/\op<=10)(d:decide (a<=A)=false) :
  Cl 143 #[I4 op,.agg #[U8 a,U8 A],.agg #[U8 b,U8 B]] w fun e c=>e=.returned (.tuple #[.agg #[U8 (0),U8 (0)],.bool false])/\Bw w c:=by
 go_enter Tryz.func143,Tryz.ntmps143
 go_wp2_with (go_at_call 146;go_must (refine (qAe _ _ _).mono ?_);rintro e c ⟨rfl,rfl⟩)
 all_goals refine bodyPost_ret (v:=.tuple #[.agg #[U8 (0),U8 (0)],.bool false]) ?_ rfl ⟨rfl,by go_grown⟩
 all_goals rw [results_cell_tmp rfl]
 all_goals simp [asAddr,Result.andThen]
 all_goals rw [qAc (a:=0) (A:=0)]
 all_goals go_cell
theorem sdo_nb (op a A b B:Int)(w:World)(h:1<=op/\op<=10)(d:decide (a<=A)=true)(f:decide (b<=B)=false) :
  Cl 143 #[I4 op,.agg #[U8 a,U8 A],.agg #[U8 b,U8 B]] w fun e c=>e=.returned (.tuple #[.agg #[U8 (0),U8 (0)],.bool false])/\Bw w c:=by
 go_enter Tryz.func143,Tryz.ntmps143
 go_wp2_with (go_at_call 146;go_must (refine (qAe _ _ _).mono ?_);rintro e c ⟨rfl,rfl⟩)
 all_goals refine bodyPost_ret (v:=.tuple #[.agg #[U8 (0),U8 (0)],.bool false]) ?_ rfl ⟨rfl,by go_grown⟩
 all_goals rw [results_cell_tmp rfl]
 all_goals simp [asAddr,Result.andThen]
 all_goals rw [qAc (a:=0) (A:=0)]
 all_goals go_cell
theorem sref_lo (op a A b B:Int)(d:Bool)(w:World)(h:op<16) :
  Cl 145 #[I4 op,.agg #[U8 a,U8 A],.agg #[U8 b,U8 B],.bool d] w fun e c=>e=.returned (.tuple #[.agg #[U8 (0),U8 (0)],.bool false])/\Bw w c:=by
 go_enter Tryz.func145,Tryz.ntmps145
 go_wp2_with (go_at_call 146;go_must (refine (qAe _ _ _).mono ?_);rintro e c ⟨rfl,rfl⟩)
 all_goals refine bodyPost_ret (v:=.tuple #[.agg #[U8 (0),U8 (0)],.bool false]) ?_ rfl ⟨rfl,by go_grown⟩
 all_goals rw [results_cell_tmp rfl]
 all_goals simp [asAddr,Result.andThen]
 all_goals rw [qAc (a:=0) (A:=0)]
 all_goals go_cell
theorem sref_hi (op a A b B:Int)(d:Bool)(w:World)(h:¬ op<16)(f:19<op) :
  Cl 145 #[I4 op,.agg #[U8 a,U8 A],.agg #[U8 b,U8 B],.bool d] w fun e c=>e=.returned (.tuple #[.agg #[U8 (0),U8 (0)],.bool false])/\Bw w c:=by
 go_enter Tryz.func145,Tryz.ntmps145
 go_wp2_with (go_at_call 146;go_must (refine (qAe _ _ _).mono ?_);rintro e c ⟨rfl,rfl⟩)
 all_goals refine bodyPost_ret (v:=.tuple #[.agg #[U8 (0),U8 (0)],.bool false]) ?_ rfl ⟨rfl,by go_grown⟩
 all_goals rw [results_cell_tmp rfl]
 all_goals simp [asAddr,Result.andThen]
 all_goals rw [qAc (a:=0) (A:=0)]
 all_goals go_cell
theorem sref_na (op a A b B:Int)(d:Bool)(w:World)(h:16<=op/\op<=19)(f:decide (a<=A)=false) :
  Cl 145 #[I4 op,.agg #[U8 a,U8 A],.agg #[U8 b,U8 B],.bool d] w fun e c=>e=.returned (.tuple #[.agg #[U8 (0),U8 (0)],.bool false])/\Bw w c:=by
 go_enter Tryz.func145,Tryz.ntmps145
 go_wp2_with (go_at_call 146;go_must (refine (qAe _ _ _).mono ?_);rintro e c ⟨rfl,rfl⟩)
 all_goals refine bodyPost_ret (v:=.tuple #[.agg #[U8 (0),U8 (0)],.bool false]) ?_ rfl ⟨rfl,by go_grown⟩
 all_goals rw [results_cell_tmp rfl]
 all_goals simp [asAddr,Result.andThen]
 all_goals rw [qAc (a:=0) (A:=0)]
 all_goals go_cell
theorem sref_nb (op a A b B:Int)(d:Bool)(w:World)(h:16<=op/\op<=19)(f:decide (a<=A)=true)(g:decide (b<=B)=false) :
  Cl 145 #[I4 op,.agg #[U8 a,U8 A],.agg #[U8 b,U8 B],.bool d] w fun e c=>e=.returned (.tuple #[.agg #[U8 (0),U8 (0)],.bool false])/\Bw w c:=by
 go_enter Tryz.func145,Tryz.ntmps145
 go_wp2_with (go_at_call 146;go_must (refine (qAe _ _ _).mono ?_);rintro e c ⟨rfl,rfl⟩)
 all_goals refine bodyPost_ret (v:=.tuple #[.agg #[U8 (0),U8 (0)],.bool false]) ?_ rfl ⟨rfl,by go_grown⟩
 all_goals rw [results_cell_tmp rfl]
 all_goals simp [asAddr,Result.andThen]
 all_goals rw [qAc (a:=0) (A:=0)]
 all_goals go_cell
theorem sref_wide (op a A b B:Int)(d:Bool)(w:World)(h:16<=op/\op<=19)(g:decide (a<=A)=true)(f:decide (b<=B)=true)(i:(b==B)=false) :
  Cl 145 #[I4 op,.agg #[U8 a,U8 A],.agg #[U8 b,U8 B],.bool d] w fun e c=>e=.returned (.tuple #[.agg #[U8 (a),U8 (A)],.bool true])/\Bw w c:=by
 go_enter Tryz.func145,Tryz.ntmps145
 go_wp2_with (go_at_call 146;go_must (refine (qAe _ _ _).mono ?_);rintro e c ⟨rfl,rfl⟩)
 all_goals refine bodyPost_ret (v:=.tuple #[.agg #[U8 (a),U8 (A)],.bool true]) ?_ rfl ⟨rfl,by go_grown⟩
 all_goals rw [results_cell_tmp rfl]
 all_goals simp [asAddr,Result.andThen]
 all_goals rw [qAc (a:=a) (A:=A)]
 all_goals go_cell
def optV:Option (Int×Int)->Value
 | none=>.tuple #[.agg #[.int .u64 0,.int .u64 0],.bool false]
 | some p=>.tuple #[.agg #[.int .u64 p.1,.int .u64 p.2],.bool true]
def refineR (op a A b B:Int) (h:Bool):Option (Int×Int):=if (16<=op/\op<=19)/\a<=A/\b<=B then refineL op a A b B h else none
def doR (op a A b B:Int):Option (Int×Int):=if (1<=op/\op<=10)/\a<=A/\b<=B then some (spanL op a A b B) else none
theorem wrap_in {x:Int}(h0:0<=x)(h:x<=18446744073709551615):IntKind.u64.wrap x=x:=by rw [IntKind.wrap_u64];omega

theorem sref_less (op:Int)(h:Bool)(f:lessB op h=true)(a A n:Int)(w:World)(c:0<=a/\a<=A/\A<=18446744073709551615)(b:0<=n/\n<=18446744073709551615) :
  Cl 145 #[I4 op,.agg #[U8 a,U8 A],.agg #[U8 n,U8 n],.bool h] w fun e i=>e=.returned (optV (if n<=a then none else some (a,min A (n-1))))/\Bw w i:=by
 have g:(op=18/\h=true)∨(op=19/\h=false):=by
  unfold lessB at f
  cases h<;>simp at f ⊢<;>exact f
 by_cases h1:n<=a
 ·rw [if_pos h1]
  rcases g with ⟨rfl,rfl⟩|⟨rfl,rfl⟩
  ·exact sref_less1_18 a A n w c b h1
  ·exact sref_less1_19 a A n w c b h1
 rw [if_neg h1];have d:=wrap_in (x:=n-1) (by omega) (by omega)
 by_cases h2:A<=n-1
 ·rw [Int.min_eq_left h2]
  rcases g with ⟨rfl,rfl⟩|⟨rfl,rfl⟩
  ·exact sref_less2_18 a A n w c b (by omega) d h2
  ·exact sref_less2_19 a A n w c b (by omega) d h2
 ·rw [Int.min_eq_right (by omega)]
  rcases g with ⟨rfl,rfl⟩|⟨rfl,rfl⟩
  ·exact sref_less3_18 a A n w c b (by omega) d (by omega)
  ·exact sref_less3_19 a A n w c b (by omega) d (by omega)
theorem sref_from (op:Int)(h:Bool)(d:(op=18/\h=false)∨(op=19/\h=true))(a A n:Int)(w:World)(b:0<=a/\a<=A/\A<=18446744073709551615)(c:0<=n/\n<=18446744073709551615) :
  Cl 145 #[I4 op,.agg #[U8 a,U8 A],.agg #[U8 n,U8 n],.bool h] w fun e f=>e=.returned (optV (if A<n then none else some (max a n,A)))/\Bw w f:=by
 by_cases h1:A<n
 ·rw [if_pos h1]
  rcases d with ⟨rfl,rfl⟩|⟨rfl,rfl⟩
  ·exact sref_from1_18 a A n w b c h1
  ·exact sref_from1_19 a A n w b c h1
 rw [if_neg h1]
 by_cases h2:a<n
 ·rw [Int.max_eq_right (by omega)]
  rcases d with ⟨rfl,rfl⟩|⟨rfl,rfl⟩
  ·exact sref_from2_18 a A n w b c (by omega) h2
  ·exact sref_from2_19 a A n w b c (by omega) h2
 ·rw [Int.max_eq_left (by omega)]
  rcases d with ⟨rfl,rfl⟩|⟨rfl,rfl⟩
  ·exact sref_from3_18 a A n w b c (by omega) (by omega)
  ·exact sref_from3_19 a A n w b c (by omega) (by omega)
theorem sref_same (op:Int)(h:Bool)(f:(op=16/\h=true)∨(op=17/\h=false))(a A n:Int)(w:World)(d:0<=a/\a<=A/\A<=18446744073709551615)(c:0<=n/\n<=18446744073709551615) :
  Cl 145 #[I4 op,.agg #[U8 a,U8 A],.agg #[U8 n,U8 n],.bool h] w fun e g=>e=.returned (optV (if a<=n/\n<=A then some (n,n) else none))/\Bw w g:=by
 by_cases h1:a<=n/\n<=A
 ·rw [if_pos h1]
  have b:hasN a A n=true:=by simp [hasN];omega
  rcases f with ⟨rfl,rfl⟩|⟨rfl,rfl⟩
  ·exact sref_same1_16 a A n w d c b
  ·exact sref_same1_17 a A n w d c b
 ·rw [if_neg h1]
  have b:hasN a A n=false:=by simp [hasN];omega
  rcases f with ⟨rfl,rfl⟩|⟨rfl,rfl⟩
  ·exact sref_same2_16 a A n w d c b
  ·exact sref_same2_17 a A n w d c b
theorem sref_not (op:Int)(h:Bool)(g:(op=16/\h=false)∨(op=17/\h=true))(a A n:Int)(w:World)(c:0<=a/\a<=A/\A<=18446744073709551615)(b:0<=n/\n<=18446744073709551615) :
  Cl 145 #[I4 op,.agg #[U8 a,U8 A],.agg #[U8 n,U8 n],.bool h] w fun e k=>e=.returned (optV (if a=n/\A=n then none else if a=n then some (n+1,A) else if A=n then some (a,n-1) else some (a,A)))/\Bw w k:=by
 by_cases h1:a=n/\A=n
 ·rw [if_pos h1];obtain ⟨rfl,rfl⟩:=h1
  rcases g with ⟨rfl,rfl⟩|⟨rfl,rfl⟩
  ·exact sref_not1_16 _ w c b
  ·exact sref_not1_17 _ w c b
 rw [if_neg h1]
 by_cases h2:a=n
 ·rw [if_pos h2];subst h2;have f:=wrap_in (x:=a+1) (by omega) (by omega)
  have hA:(A==a)=false:=by simp;omega
  rcases g with ⟨rfl,rfl⟩|⟨rfl,rfl⟩
  ·exact sref_not2_16 A a w c b hA f
  ·exact sref_not2_17 A a w c b hA f
 rw [if_neg h2]
 have d:(a==n)=false:=by simpa using h2
 by_cases h3:A=n
 ·rw [if_pos h3];subst h3;have f:=wrap_in (x:=A-1) (by omega) (by omega)
  rcases g with ⟨rfl,rfl⟩|⟨rfl,rfl⟩
  ·exact sref_not3_16 a A w c b d f
  ·exact sref_not3_17 a A w c b d f
 ·rw [if_neg h3]
  have i:(A==n)=false:=by simpa using h3
  rcases g with ⟨rfl,rfl⟩|⟨rfl,rfl⟩
  ·exact sref_not4_16 a A n w c b d i
  ·exact sref_not4_17 a A n w c b d i
theorem srefine_any (op a A b B:Int)(h:Bool)(w:World)(f:W64 a)(hA:W64 A)(d:W64 b)(k:W64 B) :
  Cl 145 #[I4 op,.agg #[U8 a,U8 A],.agg #[U8 b,U8 B],.bool h] w fun e i=>e=.returned (optV (refineR op a A b B h))/\Bw w i:=by
 unfold W64 at f hA d k;unfold refineR
 by_cases c1:op<16
 ·rw [if_neg (by omega)];exact sref_lo op a A b B h w c1
 by_cases c2:19<op
 ·rw [if_neg (by omega)];exact sref_hi op a A b B h w c1 c2
 have c:16<=op/\op<=19:=by omega
 by_cases c3:a<=A
 case neg=>rw [if_neg (by omega)];exact sref_na op a A b B h w c (decide_eq_false c3)
 by_cases c4:b<=B
 case neg=>rw [if_neg (by omega)];exact sref_nb op a A b B h w c (decide_eq_true c3) (decide_eq_false c4)
 rw [if_pos ⟨c,c3,c4⟩];unfold refineL
 by_cases c5:b≠B
 ·rw [if_pos c5];exact sref_wide op a A b B h w c (decide_eq_true c3) (decide_eq_true c4) (by simpa using c5)
 rw [if_neg c5]
 obtain rfl:b=B:=by omega
 by_cases c6:lessB op h=true
 ·rw [if_pos c6];exact sref_less op h c6 a A b w ⟨f.1,c3,hA.2⟩ d
 rw [if_neg c6]
 by_cases c7:18<=op
 ·rw [if_pos c7];refine sref_from op h ?_ a A b w ⟨f.1,c3,hA.2⟩ d
  have:op=18∨op=19:=by omega
  rcases this with rfl|rfl<;>cases h<;>simp [lessB] at c6 ⊢
 rw [if_neg c7]
 have g:op=16∨op=17:=by omega
 by_cases c9:sameB op h=true
 ·rw [if_pos c9];refine sref_same op h ?_ a A b w ⟨f.1,c3,hA.2⟩ d
  rcases g with rfl|rfl<;>cases h<;>simp [sameB] at c9 ⊢
 ·rw [if_neg c9];refine sref_not op h ?_ a A b w ⟨f.1,c3,hA.2⟩ d
  rcases g with rfl|rfl<;>cases h<;>simp [sameB] at c9 ⊢
theorem sdo_one (op a b:Int)(w:World)(l:1<=op/\op<=10)(i:0<=a/\a<=18446744073709551615)(g:0<=b/\b<=18446744073709551615) :
  Cl 143 #[I4 op,.agg #[U8 a,U8 a],.agg #[U8 b,U8 b]] w fun e d=>e=.returned (.tuple #[.agg #[U8 (doL op a b),U8 (doL op a b)],.bool true])/\Bw w d:=by
 have n:decide (a<=a)=true:=decide_eq_true (Int.le_refl _);have o:decide (b<=b)=true:=decide_eq_true (Int.le_refl _);obtain ⟨N,f⟩:∃ N,Hid (N=doL op a b):=⟨_,rfl⟩;obtain ⟨c,k⟩:∃ c,Hid (c=isOp op):=⟨_,rfl⟩;rw [<- f.out];go_enter Tryz.func143,Tryz.ntmps143
 go_wp2_with (first
  | (go_at_call 146;go_must (refine (qAe _ _ _).mono ?_);rintro e d ⟨rfl,rfl⟩)
  | (go_at_call 68;go_must (refine (rdo_as f k _ i g).mono ?_);rintro e d ⟨rfl,rfl⟩))
 refine bodyPost_ret (v:=.tuple #[.agg #[U8 N,U8 N],.bool true]) ?_ rfl ⟨rfl,by go_grown⟩;rw [results_cell_tmp rfl]
 simp [asAddr,Result.andThen]
 rw [qAc (a:=N) (A:=N)]
 all_goals go_cell
end Go.Proofs.YtmdhljoicnommaaGreat
