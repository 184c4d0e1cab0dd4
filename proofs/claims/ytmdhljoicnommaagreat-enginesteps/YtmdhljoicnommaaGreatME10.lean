/-
  S6Slices
  S6Box
  J8Types
  S6Ref
  S6RRefA
  S6RRefB
  S6RNo
  S6RRefine
  S6Inside
  S6ROne
-/
import Derived.Test.YtmdhljoicnommaaGreatME6
import Derived.Test.YtmdhljoicnommaaGreatME9
import Derived.Deep.MidRow
namespace Go.Proofs.YtmdhljoicnommaaGreat
set_option maxHeartbeats 12800000
open Go.ChangeShapes Go.WideShapes Go.ChangeAt Go.RowKit
set_option linter.unusedVariables false
set_option maxRecDepth 100000
open Go.RowKit
set_option maxRecDepth 20000
abbrev Sp:Type:=Int×Int
abbrev spC (p:Sp):List Value:=[.int .u64 p.1,.int .u64 p.2]
def wfS (p:Sp):Prop:=W64 p.1/\W64 p.2
def AtS (w:World) (b off:Nat) (p:Sp):Prop:=w.cell? ⟨b,off,none⟩=some (.int .u64 p.1)/\w.cell? ⟨b,off+1,none⟩=some (.int .u64 p.2)
theorem AtS.below {w a:World}{b off B:Nat}{p:Sp}(h:AtS w b off p)(c:Below B w a)(d:b<B):AtS a b off p:=by
 unfold AtS;rw [c.cell (p:=⟨b,off,none⟩) d,c.cell (p:=⟨b,off+1,none⟩) d];exact h
def SeesS (w:World) (v:Value) (xs:List Sp):Prop :=
 ∃ a cap,v=.slice a xs.length cap/\xs.length<=cap/\cap<=maxLen/\(a=none->cap=0) /\
  (xs≠[]->∃ b off,a=some ⟨b,off,none⟩/\b<w.heap.size/\∀ k,k<xs.length->AtS w b (off+k*2) (xs.getD k (0,0)))
theorem SeesS.below {w i:World}{v:Value}{xs:List Sp}(h:SeesS w v xs)(f:Bw w i):SeesS i v xs:=by
 obtain ⟨a,cap,rfl,n,s,l,r⟩:=h;refine ⟨a,cap,rfl,n,s,l,fun d=>?_⟩;obtain ⟨b,off,rfl,c,g⟩:=r d;exact ⟨b,off,rfl,Nat.lt_of_lt_of_le c f.size,fun k o=>(g k o).below f c⟩
def qFe (xs:List Sp):List Value:=xs.flatMap spC
theorem qXc (l m:List Sp):qFe l++qFe m=qFe (l++m):=by simp [qFe]
theorem qSi (xs:List Sp):(qFe xs).length=xs.length*2:=by
 induction xs with
 | nil=>rfl
 | cons x xs ih =>
  have e:qFe (x :: xs)=spC x++qFe xs:=rfl;rw [e,List.length_append,ih,List.length_cons]
  simp;omega
theorem yAw:∀ (xs:List Sp)(k j:Nat),k<xs.length->j<2->(qFe xs)[k*2+j]? = (spC (xs.getD k (0,0)))[j]?
 | [],k,j,hk,_=>by simp at hk
 | x :: xs,0,j,_,hj=>by
  have e:qFe (x :: xs)=spC x++qFe xs:=rfl;rw [e,List.getElem?_append_left (by simp [spC];omega)]
  simp
 | x :: xs,k+1,j,hk,hj=>by
  have e:qFe (x :: xs)=spC x++qFe xs:=rfl;have a:(spC x).length=2:=rfl;rw [e,List.getElem?_append_right (by rw [a];omega),a,show (k+1)*2+j-2=k*2+j by omega,yAw xs k j (by simpa using hk) hj]
  simp [List.getD]
theorem yMn {w:World}{b off:Nat}{p:Sp}(h:∀ j,j<2->w.cell? ⟨b,off+j,none⟩=(spC p)[j]?):AtS w b off p:=⟨h 0 (by omega),h 1 (by omega)⟩
theorem qXp (xs:List Sp):∀ u∈qFe xs,u.oneCell'=true:=by
 intro u a;simp only [qFe,List.mem_flatMap] at a;obtain ⟨i,_,hi⟩:=a;simp only [spC,List.mem_cons,List.not_mem_nil,or_false] at hi
 rcases hi with rfl|rfl<;>rfl
theorem qXb {w:World}{base:Nat}{e:TypeId}{v:Value}{xs:List Sp}(h:w.ownsRow base e 2 v xs.length (qFe xs)):SeesS w v xs:=by
 have h0:=h
 rcases h with ⟨u,⟨rfl,i⟩|⟨g,cap,n,rfl,o,a,b,d,s,r⟩⟩
 ·have:xs=[]:=List.eq_nil_of_length_eq_zero i;subst this;exact ⟨none,0,rfl,by simp,by simp [maxLen],fun _=>rfl,fun h=>absurd rfl h⟩
 ·refine ⟨_,cap,rfl,b,d,fun h=>by simp at h,fun l=>⟨g,0,rfl,(Array.getElem?_eq_some_iff.1 a).1,fun k c=>yMn fun j f=>?_⟩⟩;rw [Nat.zero_add,h0.cellAt (k*2+j) (by omega)];exact yAw xs k j c f
theorem SeesS.lit (w:World)(t:TypeId)(xs:List Sp)(cs:Array Value)(n:Nat)(a:cs=(qFe xs).toArray)(b:n=xs.length)(hm:xs.length<=1048576):SeesS (w.alloc (.cells cs t)) (.slice (some ⟨w.heap.size,0,none⟩) n n) xs:=by
 subst b a;refine qXb (base:=w.heap.size) (e:=t) ⟨qSi xs,.inr ⟨w.heap.size,xs.length,(qFe xs).toArray,rfl,Nat.le_refl _,?_,Nat.le_refl _,by unfold maxLen;omega,?_,?_⟩⟩
 ·show (w.heap.push _)[w.heap.size]? = _
  simp
 ·rw [List.size_toArray,qSi]
 ·rw [<- qSi];simp
abbrev spO (a A:Int):Obj:=.cells #[.int .u64 a,.int .u64 A] 151
theorem qCf {w a:World}{o:Obj}(h:Below (w.alloc o).heap.size (w.alloc o) a):Bw w a:=((Below.refl _ _).alloc (Nat.le_refl _) o).trans (h.mono (by simp))
theorem qAe {w:World}{n:Nat}{a A:Int}(h0:w.cell? ⟨n,0,none⟩=some (U8 a))(f:w.cell? ⟨n,1,none⟩=some (U8 A)):(loadVar 151 ⟨n,0,none⟩).run Tryz.prog w=.ok (.agg #[U8 a,U8 A]) w:=by
 refine run_loadVar_mid w n 0 151 [U8 a,U8 A] _ ?_ Tryz.underlying151 rfl (by kernel_rfl);intro j v b;rw [Nat.zero_add];have d:j<2:=(List.getElem?_eq_some_iff.1 b).1
 have c:j=0∨j=1:=by omega
 rcases c with rfl|rfl<;>simp at b<;>subst b<;>assumption
structure Ty where
 k:Int
 lo:Int
 hi:Int
 m:Int
def eqT (a b:Ty):Bool:=decide (a.k=b.k)&&decide (a.lo=b.lo)&&decide (a.hi=b.hi)&&decide (a.m=b.m)
theorem qKq (a b:Ty):eqT a b=true↔a=b:=by
 cases a;cases b
 simp [eqT,and_assoc]
def Ty.nil:Ty:=⟨0,0,0,0⟩
abbrev tyC (t:Ty):List Value:=[.int .i64 t.k,.int .u64 t.lo,.int .u64 t.hi,.int .i64 t.m]
abbrev tyV (t:Ty):Value:=.agg #[.int .i64 t.k,.int .u64 t.lo,.int .u64 t.hi,.int .i64 t.m]
def AtT (w:World) (b off:Nat) (t:Ty):Prop:=w.cell? ⟨b,off,none⟩=some (.int .i64 t.k)/\w.cell? ⟨b,off+1,none⟩=some (.int .u64 t.lo)/\w.cell? ⟨b,off+2,none⟩=some (.int .u64 t.hi)/\w.cell? ⟨b,off+3,none⟩=some (.int .i64 t.m)
theorem AtT.below {w d:World}{b off B:Nat}{t:Ty}(h:AtT w b off t)(a:Below B w d)(c:b<B):AtT d b off t:=by
 unfold AtT;rw [a.cell (p:=⟨b,off,none⟩) c,a.cell (p:=⟨b,off+1,none⟩) c,a.cell (p:=⟨b,off+2,none⟩) c,a.cell (p:=⟨b,off+3,none⟩) c];exact h
def SeesT (w:World) (v:Value) (xs:List Ty):Prop :=
 ∃ a cap,v=.slice a xs.length cap/\xs.length<=cap/\cap<=maxLen/\(a=none->cap=0) /\
  (xs≠[]->∃ b off,a=some ⟨b,off,none⟩/\b<w.heap.size/\∀ k,k<xs.length->AtT w b (off+k*4) (xs.getD k Ty.nil))
theorem SeesT.below {w i:World}{v:Value}{xs:List Ty}(h:SeesT w v xs)(f:Bw w i):SeesT i v xs:=by
 obtain ⟨a,cap,rfl,n,s,l,r⟩:=h;refine ⟨a,cap,rfl,n,s,l,fun d=>?_⟩;obtain ⟨b,off,rfl,c,g⟩:=r d;exact ⟨b,off,rfl,Nat.lt_of_lt_of_le c f.size,fun k o=>(g k o).below f c⟩
theorem SeesT.shape {w:World}{v:Value}{xs:List Ty}(h:SeesT w v xs):∃ a cap,v=.slice a xs.length cap:=by
 obtain ⟨a,cap,rfl,_⟩:=h;exact ⟨a,cap,rfl⟩
theorem SeesT.nil (w:World):SeesT w (.slice none 0 0) []:=⟨none,0,rfl,by simp,by simp [maxLen],fun _=>rfl,fun h=>absurd rfl h⟩
def qAo (xs:List Ty):List Value:=xs.flatMap tyC
theorem yMy (l m:List Ty):qAo l++qAo m=qAo (l++m):=by simp [qAo]
theorem qIj (xs:List Ty):(qAo xs).length=xs.length*4:=by
 induction xs with
 | nil=>rfl
 | cons x xs ih =>
  have e:qAo (x :: xs)=tyC x++qAo xs:=rfl;rw [e,List.length_append,ih,List.length_cons]
  simp;omega
theorem qHu:∀ (xs:List Ty)(k j:Nat),k<xs.length->j<4->(qAo xs)[k*4+j]? = (tyC (xs.getD k Ty.nil))[j]?
 | [],k,j,hk,_=>by simp at hk
 | x :: xs,0,j,_,hj=>by
  have e:qAo (x :: xs)=tyC x++qAo xs:=rfl;rw [e,List.getElem?_append_left (by simp [tyC];omega)]
  simp
 | x :: xs,k+1,j,hk,hj=>by
  have e:qAo (x :: xs)=tyC x++qAo xs:=rfl;have a:(tyC x).length=4:=rfl;rw [e,List.getElem?_append_right (by rw [a];omega),a,show (k+1)*4+j-4=k*4+j by omega,qHu xs k j (by simpa using hk) hj]
  simp [List.getD]
theorem qYg {w:World}{b off:Nat}{p:Ty}(h:AtT w b off p)(j:Nat)(g:j<4):w.cell? ⟨b,off+j,none⟩=(tyC p)[j]? := by
 obtain ⟨h0,d,f,a⟩:=h
 have c:j=0∨j=1∨j=2∨j=3:=by omega
 rcases c with rfl|rfl|rfl|rfl
 ·exact h0
 ·exact d
 ·exact f
 ·exact a
theorem qYo {w:World}{b off:Nat}{p:Ty}(h:∀ j,j<4->w.cell? ⟨b,off+j,none⟩=(tyC p)[j]?):AtT w b off p:=⟨h 0 (by omega),h 1 (by omega),h 2 (by omega),h 3 (by omega)⟩
theorem yFj {w:World}{b off:Nat}{xs:List Ty}(h:∀ k,k<xs.length->AtT w b (off+k*4) (xs.getD k Ty.nil))(j:Nat)(u:Value)(a:(qAo xs)[j]? = some u):w.cell? ((⟨b,off,none⟩:Addr).add j)=some u:=by
 have c:j<xs.length*4:=by rw [<- qIj];exact (List.getElem?_eq_some_iff.1 a).1
 have e:j=(j / 4)*4+j%4:=by omega
 rw [e,qHu xs (j / 4) (j%4) (by omega) (by omega)] at a;rw [Addr.add_mid,<- a,<- qYg (h (j / 4) (by omega)) (j%4) (by omega)]
 congr 2
 omega
theorem qXx (xs:List Ty):∀ u∈qAo xs,u.oneCell'=true:=by
 intro u a;simp only [qAo,List.mem_flatMap] at a;obtain ⟨i,_,hi⟩:=a;simp only [tyC,List.mem_cons,List.not_mem_nil,or_false] at hi
 rcases hi with rfl|rfl|rfl|rfl<;>rfl
theorem qGc {w:World}{base:Nat}{e:TypeId}{v:Value}{xs:List Ty}(h:w.ownsRow base e 4 v xs.length (qAo xs)):SeesT w v xs:=by
 have h0:=h
 rcases h with ⟨u,⟨rfl,i⟩|⟨g,cap,n,rfl,o,a,b,d,s,r⟩⟩
 ·have:xs=[]:=List.eq_nil_of_length_eq_zero i;subst this;exact SeesT.nil w
 ·refine ⟨_,cap,rfl,b,d,fun h=>by simp at h,fun l=>⟨g,0,rfl,(Array.getElem?_eq_some_iff.1 a).1,fun k c=>qYo fun j f=>?_⟩⟩;rw [Nat.zero_add,h0.cellAt (k*4+j) (by omega)];exact qHu xs k j c f
theorem yHx (w:World)(e:TypeId):(w.alloc (.cells #[] e)).ownsRow w.heap.size e 4 (.slice (some ⟨w.heap.size,0,none⟩) 0 0) 0 (qAo []):=by
 refine ⟨rfl,.inr ⟨w.heap.size,0,#[],rfl,Nat.le_refl _,?_,Nat.le_refl _,by simp [maxLen],rfl,rfl⟩⟩
 show (w.heap.push _)[w.heap.size]? = _
 simp
theorem qHe (w:World)(base:Nat)(t:TypeId)(xs:List Ty)(cs:Array Value)(n g:Nat)(b:g=w.heap.size)(d:base<=w.heap.size)(a:cs=(qAo xs).toArray)(c:n=xs.length)(hm:xs.length<=1048576):(w.alloc (.cells cs t)).ownsRow base t 4 (.slice (some ⟨g,0,none⟩) n n) xs.length (qAo xs):=by
 subst c a b;refine ⟨qIj xs,.inr ⟨w.heap.size,xs.length,(qAo xs).toArray,rfl,d,?_,Nat.le_refl _,by unfold maxLen;omega,?_,?_⟩⟩
 ·show (w.heap.push _)[w.heap.size]? = _
  simp
 ·rw [List.size_toArray,qIj]
 ·rw [<- qIj];simp
theorem SeesT.lit (w:World)(t:TypeId)(xs:List Ty)(cs:Array Value)(n:Nat)(a:cs=(qAo xs).toArray)(b:n=xs.length)(hm:xs.length<=1048576):SeesT (w.alloc (.cells cs t)) (.slice (some ⟨w.heap.size,0,none⟩) n n) xs :=
 qGc (qHe w w.heap.size t xs cs n _ rfl (Nat.le_refl _) a b hm)
theorem qCc {P:Program}{w:World}{B:Array Oper}{r:List Oper}{o:Oper}{a:Act}{Q:Exit->Act->World->Prop}(V:o.guard=none)(s x:Operand)(t:TypeId)(I:o.op=.call { callee:=.builtin .append,args:=#[s,x],argTypes:=#[t,t] })(base:Nat)(e:TypeId)(i:TypeInfo)(z:Value)(M:P.underlying t=some (.slice e))(hi:P.info? e=some i)(U:i.zero=some z)(l:i.size=4)(A:i.bytes=32)(E:z.cells.size=4)(v:Value)(xs:List Ty)(F:a.eval s=v)(d:w.ownsRow base e 4 v xs.length (qAo xs))(D:Value)(c:List Ty)(N:a.eval x=D)(J:SeesT w D c)(y:xs.length+c.length<=maxLen)(f:(xs.length+c.length)*32<=140737488355328)(k:base<=w.heap.size)(h:∀ n g,g.ownsRow base e 4 n (xs++c).length (qAo (xs++c))->w.grownBy g v.ownBlock->wpList P B Q r (a.put o.dst n) g):wpList P B Q (o :: r) a w:=by
 refine wpList_plain V fun K hK=>?_
 obtain ⟨O,cap,rfl,Z,hm,R,X⟩:=J
 by_cases hne:c=[]
 ·subst hne
  cases O with
  | none =>
   obtain rfl:cap=0:=R rfl;have G:=run_append_owned_none (P:=P) (w:=w) base t o.type e i 4 M hi v _ _ d;have S:a.eval x=.slice none 0 0:=N;unfold Oper.wp
   simp [execOp,I,resolve,invoke,builtin,F,S,G,Result.andThen]
   exact hK _ _ (h v w (by simpa using d) ⟨rfl,rfl,rfl,Nat.le_refl _,fun _ _ _=>rfl⟩)
  | some O =>
   refine wp_append_own w s x t I base e i z 4 32 M hi U l A E (by decide) v _ _ F d O 0 cap [] N rfl (by simp) (by simp) (by simpa using y) (by simpa using f) k ?_;intro n g u L _;exact hK _ _ (h n g (by simpa using u) L)
 ·obtain ⟨b,off,rfl,Y,T⟩:=X hne;refine wp_append_own w s x t I base e i z 4 32 M hi U l A E (by decide) v _ _ F d ⟨b,off,none⟩ c.length cap (qAo c) N (qIj c) (yFj T) (qXx c) y f k ?_;intro n g u L _;exact hK _ _ (h n g (by rw [yMy,<- List.length_append] at u;exact u) L)
def yCe (a:Option Addr) (l h m:Nat):Value:=.slice (if m=l then a else a.map (·.add (l*4))) (h-l) (m-l)
theorem SeesT.cut {w:World}{a:Option Addr}{cap:Nat}{xs:List Ty}(h:SeesT w (.slice a xs.length cap) xs)(l c m:Nat)(J:l<=c)(r:c<=xs.length)(hm:c<=m)(G:m<=cap):SeesT w (yCe a l c m) ((xs.take c).drop l):=by
 obtain ⟨z,f,u,K,I,E,A⟩:=h
 obtain ⟨rfl,_,rfl⟩:a=z/\xs.length=xs.length/\cap=f:=by injection u with g y D;exact ⟨g,y,D⟩
 have d:((xs.take c).drop l).length=c-l:=by simp;omega
 refine ⟨_,m-l,by rw [d];rfl,by omega,by omega,fun s=>?_,fun i=>?_⟩
 ·split at s
  ·omega
  ·have:a=none:=by simpa using s
   have:=E this
   omega
 ·have B:l<c:=by
   rcases Nat.lt_or_ge l c with h|h
   ·exact h
   ·exact absurd (List.eq_nil_of_length_eq_zero (by rw [d];omega)) i
  obtain ⟨b,off,rfl,o,n⟩:=A (fun e=>by rw [e] at r;simp at r;omega);refine ⟨b,off+l*4,by rw [if_neg (by omega)];simp [Addr.add_mid],o,fun k F=>?_⟩;rw [d] at F;have:=n (l+k) (by omega)
  have g:((xs.take c).drop l).getD k Ty.nil=xs.getD (l+k) Ty.nil:=by
   simp only [List.getD_eq_getElem?_getD,List.getElem?_drop,List.getElem?_take];rw [if_pos (by omega)]
  rw [g,show off+l*4+k*4=off+(l+k)*4 by omega];exact this
abbrev tyO (t:Ty):Obj:=.cells #[.int .i64 t.k,.int .u64 t.lo,.int .u64 t.hi,.int .i64 t.m] 153
theorem qFl {w:World}{n off:Nat}{k lo hi m:Int}(h:AtT w n off ⟨k,lo,hi,m⟩):(loadVar 153 ⟨n,off,none⟩).run Tryz.prog w=.ok (.agg #[I4 k,U8 lo,U8 hi,I4 m]) w:=by
 refine run_loadVar_mid w n off 153 [I4 k,U8 lo,U8 hi,I4 m] _ ?_ Tryz.underlying153 rfl (by kernel_rfl);intro j v a;have b:j<4:=(List.getElem?_eq_some_iff.1 a).1;exact (qYg h j b).trans a
theorem rb {a b:Bool}(h:a=b):Ending.returned (.bool a)=.returned (.bool b):=by rw [h]
def qGv (a A n:Int):Bool:=decide (a<=A)&&decide (a<=n)&&decide (n<=A)
def qDs (a A b B:Int):Bool:=decide (a<=A)&&decide (b<=B)&&qGv b B a&&qGv b B A
theorem qAf (a A:Int)(w:World):Cl 146 #[.agg #[U8 a,U8 A]] w fun e b=>e=.returned (.bool (decide (a<=A)))/\w.alloc (spO a A)=b:=by
 by_cases h:A<a
 ·have c:decide (a<=A)=false:=decide_eq_false (by omega);go_enter Tryz.func146,Tryz.ntmps146;go_wp2;go_ret;exact ⟨rb (by simp [h]),rfl⟩
 ·have c:decide (a<=A)=true:=decide_eq_true (by omega);go_enter Tryz.func146,Tryz.ntmps146;go_wp2;go_ret;exact ⟨rb (by simp),rfl⟩
theorem qCi (a A n:Int)(w:World):Cl 147 #[.agg #[U8 a,U8 A],U8 n] w fun e b=>e=.returned (.bool (qGv a A n))/\(w.alloc (spO a A)).alloc (spO a A)=b:=by
 go_enter Tryz.func147,Tryz.ntmps147
 go_wp2_with (go_at_call 146;go_must (refine (qAf a A _).mono ?_);rintro e b ⟨rfl,rfl⟩)
 all_goals go_ret
 ·exact ⟨rb (by simp [qGv, *]),rfl⟩
 ·exact ⟨rb (by simp [qGv];omega),rfl⟩
 ·exact ⟨rb (by simp [qGv];omega),rfl⟩
theorem qTh (a A b B:Int)(w:World):Cl 125 #[.agg #[U8 a,U8 A],.agg #[U8 b,U8 B]] w fun e d=>e=.returned (.bool (qDs a A b B))/\Bw w d:=by
 obtain ⟨z,k⟩:∃ r,Hid (r=decide (a<=A)):=⟨_,rfl⟩;obtain ⟨s,f⟩:∃ r,Hid (r=decide (b<=B)):=⟨_,rfl⟩;obtain ⟨n,g⟩:∃ r,Hid (r=qGv b B a):=⟨_,rfl⟩;obtain ⟨y,i⟩:∃ r,Hid (r=qGv b B A):=⟨_,rfl⟩
 have E:Hid (qDs a A b B=(z&&s&&n&&y)):=by show _=_;rw [k.out,f.out,g.out,i.out];rfl
 have u:=k;have o:=f;have l:=g;have D:=i
 cases z<;>cases s<;>cases n<;>cases y
 all_goals go_enter Tryz.func125,Tryz.ntmps125
 all_goals go_wp2_with (first
  | (go_at_call 146;have c:=u;clear c;go_must (refine (qAf a A _).mono ?_);rintro e d ⟨rfl,rfl⟩;rw [<- k.out];clear u)
  | (go_at_call 146;have c:=o;clear c;go_must (refine (qAf b B _).mono ?_);rintro e d ⟨rfl,rfl⟩;rw [<- f.out];clear o)
  | (go_at_call 147;have c:=l;clear c;go_must (refine (qCi b B a _).mono ?_);rintro e d ⟨rfl,rfl⟩;rw [<- g.out];clear l)
  | (go_at_call 147;have c:=D;clear c;go_must (refine (qCi b B A _).mono ?_);rintro e d ⟨rfl,rfl⟩;rw [<- i.out];clear D))
 all_goals go_ret
 all_goals exact ⟨rb (by rw [E.out];rfl),by go_grown⟩
theorem yPo {a b:Int}(c:0<a):decide (18446744073709551615 / a<b)=decide (18446744073709551615<a*b):=by
 apply decide_eq_decide.2
 rw [Int.ediv_lt_iff_lt_mul c,Int.mul_comm]
theorem qBd (a b:Int)(w:World)(g:0<=a/\a<=18446744073709551615)(f:0<=b/\b<=18446744073709551615) :
  Cl 158 #[U8 a,U8 b] w fun e c=>e=.returned (.bool (decide (18446744073709551615<a*b)))/\w=c:=by
 by_cases h:0<a
 ·rw [<- yPo h]
  have d:¬ a=0:=by omega
  go_enter Tryz.func158,Tryz.ntmps158;go_wp2;go_ret;exact ⟨rfl,rfl⟩
 ·obtain rfl:a=0:=by omega
  go_enter Tryz.func158,Tryz.ntmps158;go_wp2;go_ret;exact ⟨rb (by simp),rfl⟩
theorem qBi (n:Int)(w:World)(d:0<=n/\n<=18446744073709551615) :
  Cl 159 #[U8 n] w fun e o=>e=.returned (U8 (qCq n))/\w=o:=by
 go_enter Tryz.func159,Tryz.ntmps159;go_wp2
 go_loop [3] (fun m=>∃ (k:Nat) (M:Int),k<=64/\m=U8 M/\M=2 ^ k-1/\0<=M/\M<=18446744073709551615/\(0<k->(2:Int) ^ (k-1)<=n)) (fun m=>18446744073709551615-(intOf m).toNat)
 case atStart=>exact ⟨0,0,by omega,rfl,by simp,by omega,by omega,fun h=>absurd h (by omega)⟩
 case round =>
  obtain ⟨k,M,u,rfl,b,s,r,a⟩:=hrel
  by_cases hlt:M<n
  ·have c:k<64:=by
    rcases Nat.lt_or_ge k 64 with h|h
    ·exact h
    ·obtain rfl:k=64:=by omega
     have e:(2:Int) ^ 64=18446744073709551616:=by decide
     rw [e] at b;omega
   have i:=qUm c
   have f:Hid (2*M+1=2 ^ (k+1)-1/\(0<k+1->(2:Int) ^ (k+1-1)<=n)):=by
    refine ⟨by rw [Int.pow_succ];omega,fun _=>?_⟩;rw [Nat.add_sub_cancel];omega
   have g:2*M+1<=18446744073709551615:=by omega
   clear b a i;go_wp2
   go_round
   case rel=>exact ⟨k+1,2*M+1,by omega,rfl,f.out.1,by omega,g,f.out.2⟩
   case measure=>simp [intOf];omega
  ·have l:Hid (M=qCq n):=by
    rw [yGw (k:=k) d.1 d.2 (by omega) a];exact b
   clear b a;go_wp2;go_ret;exact ⟨qQl l.out,rfl⟩
theorem yCn (a b:Int)(w:World)(g:0<=a/\a<=18446744073709551615)(l:0<=b/\b<=18446744073709551615) :
  Cl 161 #[U8 a,U8 b] w fun e n=>e=.returned (U8 (a / 2 ^ min b.toNat 64))/\w=n:=by
 obtain ⟨B,rfl⟩:=Int.eq_ofNat_of_zero_le l.1;rw [Int.toNat_natCast];go_enter Tryz.func161,Tryz.ntmps161;go_wp2
 go_loop [0,5] (fun u i=>∃ (k:Nat) (A:Int),k<=B/\i=U8 k/\u=U8 A/\0<=A/\A<=18446744073709551615/\A=a / 2 ^ k) (fun _ i=>B-(intOf i).toNat)
 case atStart=>exact ⟨0,a,by omega,rfl,rfl,by omega,by omega,by simp⟩
 case round =>
  obtain ⟨k,A,r,rfl,rfl,hA0,y,hA⟩:=hrel;have c:Hid (A=a / 2 ^ k):=hA;clear hA
  by_cases hlt:k<B/\0<A
  ·obtain ⟨o,z⟩:=hlt
   have s:Hid (A / 2=a / 2 ^ (k+1)):=by rw [c.out,qOy];rfl
   clear c;go_wp2
   go_round
   case rel=>exact ⟨k+1,_,by omega,by go_num,rfl,by omega,by omega,s.out⟩
   case measure=>simp [intOf];omega
  ·have d:Hid (A=a / 2 ^ min B 64):=by
    rw [c.out]
    exact qRq (f:=fun i=>a / 2 ^ i) (yAl a g.1 g.2) (qXt a) r (by
     by_cases h:k=B
     ·exact .inl h
     ·exact .inr (by show _=(0:Int);rw [<- c.out];omega))
   clear c
   by_cases o:k<B
   ·obtain rfl:A=0:=by omega
    go_wp2;go_ret;exact ⟨qQl d.out,rfl⟩
   ·go_wp2;go_ret;exact ⟨qQl d.out,rfl⟩
theorem qZp (a A n:Int)(w:World)(c:0<=a/\a<=A/\A<=18446744073709551615)(d:0<=n/\n<=18446744073709551615)(h:n<=a) :
  Cl 145 #[I4 18,.agg #[U8 a,U8 A],.agg #[U8 n,U8 n],.bool true] w fun e b=>e=.returned (.tuple #[.agg #[U8 (0),U8 (0)],.bool false])/\Bw w b:=by
 have f:decide (a<=A)=true:=decide_eq_true c.2.1;have g:decide (n<=n)=true:=decide_eq_true (Int.le_refl _);go_enter Tryz.func145,Tryz.ntmps145
 go_wp2_with (first
  | (go_at_call 146;go_must (refine (qAf _ _ _).mono ?_);rintro e b ⟨rfl,rfl⟩)
  | (go_at_call 147;go_must (refine (qCi _ _ _ _).mono ?_);rintro e b ⟨rfl,rfl⟩))
 refine bodyPost_ret (v:=.tuple #[.agg #[U8 (0),U8 (0)],.bool false]) ?_ rfl ⟨rfl,by go_grown⟩;rw [results_cell_tmp rfl]
 simp [asAddr,Result.andThen]
 rw [qAe (a:=0) (A:=0)]
 all_goals go_cell
theorem yAb (a A n:Int)(w:World)(c:0<=a/\a<=A/\A<=18446744073709551615)(d:0<=n/\n<=18446744073709551615)(h:a<n)(g:IntKind.u64.wrap (n-1)=n-1)(hm:A<=n-1) :
  Cl 145 #[I4 18,.agg #[U8 a,U8 A],.agg #[U8 n,U8 n],.bool true] w fun e b=>e=.returned (.tuple #[.agg #[U8 (a),U8 (A)],.bool true])/\Bw w b:=by
 have f:decide (a<=A)=true:=decide_eq_true c.2.1;have i:decide (n<=n)=true:=decide_eq_true (Int.le_refl _);go_enter Tryz.func145,Tryz.ntmps145
 go_wp2_with (first
  | (go_at_call 146;go_must (refine (qAf _ _ _).mono ?_);rintro e b ⟨rfl,rfl⟩)
  | (go_at_call 147;go_must (refine (qCi _ _ _ _).mono ?_);rintro e b ⟨rfl,rfl⟩))
 refine bodyPost_ret (v:=.tuple #[.agg #[U8 (a),U8 (A)],.bool true]) ?_ rfl ⟨rfl,by go_grown⟩;rw [results_cell_tmp rfl]
 simp [asAddr,Result.andThen]
 rw [qAe (a:=a) (A:=A)]
 all_goals go_cell
theorem qZt (a A n:Int)(w:World)(c:0<=a/\a<=A/\A<=18446744073709551615)(d:0<=n/\n<=18446744073709551615)(h:a<n)(g:IntKind.u64.wrap (n-1)=n-1)(hm:n-1<A) :
  Cl 145 #[I4 18,.agg #[U8 a,U8 A],.agg #[U8 n,U8 n],.bool true] w fun e b=>e=.returned (.tuple #[.agg #[U8 (a),U8 (n-1)],.bool true])/\Bw w b:=by
 have f:decide (a<=A)=true:=decide_eq_true c.2.1;have i:decide (n<=n)=true:=decide_eq_true (Int.le_refl _);go_enter Tryz.func145,Tryz.ntmps145
 go_wp2_with (first
  | (go_at_call 146;go_must (refine (qAf _ _ _).mono ?_);rintro e b ⟨rfl,rfl⟩)
  | (go_at_call 147;go_must (refine (qCi _ _ _ _).mono ?_);rintro e b ⟨rfl,rfl⟩))
 refine bodyPost_ret (v:=.tuple #[.agg #[U8 (a),U8 (n-1)],.bool true]) ?_ rfl ⟨rfl,by go_grown⟩;rw [results_cell_tmp rfl]
 simp [asAddr,Result.andThen]
 rw [qAe (a:=a) (A:=n-1)]
 all_goals go_cell
theorem qZr (a A n:Int)(w:World)(c:0<=a/\a<=A/\A<=18446744073709551615)(d:0<=n/\n<=18446744073709551615)(h:n<=a) :
  Cl 145 #[I4 19,.agg #[U8 a,U8 A],.agg #[U8 n,U8 n],.bool false] w fun e b=>e=.returned (.tuple #[.agg #[U8 (0),U8 (0)],.bool false])/\Bw w b:=by
 have f:decide (a<=A)=true:=decide_eq_true c.2.1;have g:decide (n<=n)=true:=decide_eq_true (Int.le_refl _);go_enter Tryz.func145,Tryz.ntmps145
 go_wp2_with (first
  | (go_at_call 146;go_must (refine (qAf _ _ _).mono ?_);rintro e b ⟨rfl,rfl⟩)
  | (go_at_call 147;go_must (refine (qCi _ _ _ _).mono ?_);rintro e b ⟨rfl,rfl⟩))
 refine bodyPost_ret (v:=.tuple #[.agg #[U8 (0),U8 (0)],.bool false]) ?_ rfl ⟨rfl,by go_grown⟩;rw [results_cell_tmp rfl]
 simp [asAddr,Result.andThen]
 rw [qAe (a:=0) (A:=0)]
 all_goals go_cell
theorem qZy (a A n:Int)(w:World)(c:0<=a/\a<=A/\A<=18446744073709551615)(d:0<=n/\n<=18446744073709551615)(h:a<n)(g:IntKind.u64.wrap (n-1)=n-1)(hm:A<=n-1) :
  Cl 145 #[I4 19,.agg #[U8 a,U8 A],.agg #[U8 n,U8 n],.bool false] w fun e b=>e=.returned (.tuple #[.agg #[U8 (a),U8 (A)],.bool true])/\Bw w b:=by
 have f:decide (a<=A)=true:=decide_eq_true c.2.1;have i:decide (n<=n)=true:=decide_eq_true (Int.le_refl _);go_enter Tryz.func145,Tryz.ntmps145
 go_wp2_with (first
  | (go_at_call 146;go_must (refine (qAf _ _ _).mono ?_);rintro e b ⟨rfl,rfl⟩)
  | (go_at_call 147;go_must (refine (qCi _ _ _ _).mono ?_);rintro e b ⟨rfl,rfl⟩))
 refine bodyPost_ret (v:=.tuple #[.agg #[U8 (a),U8 (A)],.bool true]) ?_ rfl ⟨rfl,by go_grown⟩;rw [results_cell_tmp rfl]
 simp [asAddr,Result.andThen]
 rw [qAe (a:=a) (A:=A)]
 all_goals go_cell
theorem qZl (a A n:Int)(w:World)(c:0<=a/\a<=A/\A<=18446744073709551615)(d:0<=n/\n<=18446744073709551615)(h:a<n)(g:IntKind.u64.wrap (n-1)=n-1)(hm:n-1<A) :
  Cl 145 #[I4 19,.agg #[U8 a,U8 A],.agg #[U8 n,U8 n],.bool false] w fun e b=>e=.returned (.tuple #[.agg #[U8 (a),U8 (n-1)],.bool true])/\Bw w b:=by
 have f:decide (a<=A)=true:=decide_eq_true c.2.1;have i:decide (n<=n)=true:=decide_eq_true (Int.le_refl _);go_enter Tryz.func145,Tryz.ntmps145
 go_wp2_with (first
  | (go_at_call 146;go_must (refine (qAf _ _ _).mono ?_);rintro e b ⟨rfl,rfl⟩)
  | (go_at_call 147;go_must (refine (qCi _ _ _ _).mono ?_);rintro e b ⟨rfl,rfl⟩))
 refine bodyPost_ret (v:=.tuple #[.agg #[U8 (a),U8 (n-1)],.bool true]) ?_ rfl ⟨rfl,by go_grown⟩;rw [results_cell_tmp rfl]
 simp [asAddr,Result.andThen]
 rw [qAe (a:=a) (A:=n-1)]
 all_goals go_cell
theorem qYz (a A n:Int)(w:World)(c:0<=a/\a<=A/\A<=18446744073709551615)(d:0<=n/\n<=18446744073709551615)(h:A<n) :
  Cl 145 #[I4 18,.agg #[U8 a,U8 A],.agg #[U8 n,U8 n],.bool false] w fun e b=>e=.returned (.tuple #[.agg #[U8 (0),U8 (0)],.bool false])/\Bw w b:=by
 have f:decide (a<=A)=true:=decide_eq_true c.2.1;have g:decide (n<=n)=true:=decide_eq_true (Int.le_refl _);go_enter Tryz.func145,Tryz.ntmps145
 go_wp2_with (first
  | (go_at_call 146;go_must (refine (qAf _ _ _).mono ?_);rintro e b ⟨rfl,rfl⟩)
  | (go_at_call 147;go_must (refine (qCi _ _ _ _).mono ?_);rintro e b ⟨rfl,rfl⟩))
 refine bodyPost_ret (v:=.tuple #[.agg #[U8 (0),U8 (0)],.bool false]) ?_ rfl ⟨rfl,by go_grown⟩;rw [results_cell_tmp rfl]
 simp [asAddr,Result.andThen]
 rw [qAe (a:=0) (A:=0)]
 all_goals go_cell
theorem qZe (a A n:Int)(w:World)(c:0<=a/\a<=A/\A<=18446744073709551615)(d:0<=n/\n<=18446744073709551615)(h:n<=A)(hm:a<n) :
  Cl 145 #[I4 18,.agg #[U8 a,U8 A],.agg #[U8 n,U8 n],.bool false] w fun e b=>e=.returned (.tuple #[.agg #[U8 (n),U8 (A)],.bool true])/\Bw w b:=by
 have f:decide (a<=A)=true:=decide_eq_true c.2.1;have g:decide (n<=n)=true:=decide_eq_true (Int.le_refl _);go_enter Tryz.func145,Tryz.ntmps145
 go_wp2_with (first
  | (go_at_call 146;go_must (refine (qAf _ _ _).mono ?_);rintro e b ⟨rfl,rfl⟩)
  | (go_at_call 147;go_must (refine (qCi _ _ _ _).mono ?_);rintro e b ⟨rfl,rfl⟩))
 refine bodyPost_ret (v:=.tuple #[.agg #[U8 (n),U8 (A)],.bool true]) ?_ rfl ⟨rfl,by go_grown⟩;rw [results_cell_tmp rfl]
 simp [asAddr,Result.andThen]
 rw [qAe (a:=n) (A:=A)]
 all_goals go_cell
theorem yAc (a A n:Int)(w:World)(c:0<=a/\a<=A/\A<=18446744073709551615)(d:0<=n/\n<=18446744073709551615)(h:n<=A)(hm:n<=a) :
  Cl 145 #[I4 18,.agg #[U8 a,U8 A],.agg #[U8 n,U8 n],.bool false] w fun e b=>e=.returned (.tuple #[.agg #[U8 (a),U8 (A)],.bool true])/\Bw w b:=by
 have f:decide (a<=A)=true:=decide_eq_true c.2.1;have g:decide (n<=n)=true:=decide_eq_true (Int.le_refl _);go_enter Tryz.func145,Tryz.ntmps145
 go_wp2_with (first
  | (go_at_call 146;go_must (refine (qAf _ _ _).mono ?_);rintro e b ⟨rfl,rfl⟩)
  | (go_at_call 147;go_must (refine (qCi _ _ _ _).mono ?_);rintro e b ⟨rfl,rfl⟩))
 refine bodyPost_ret (v:=.tuple #[.agg #[U8 (a),U8 (A)],.bool true]) ?_ rfl ⟨rfl,by go_grown⟩;rw [results_cell_tmp rfl]
 simp [asAddr,Result.andThen]
 rw [qAe (a:=a) (A:=A)]
 all_goals go_cell
theorem qZu (a A n:Int)(w:World)(c:0<=a/\a<=A/\A<=18446744073709551615)(d:0<=n/\n<=18446744073709551615)(h:A<n) :
  Cl 145 #[I4 19,.agg #[U8 a,U8 A],.agg #[U8 n,U8 n],.bool true] w fun e b=>e=.returned (.tuple #[.agg #[U8 (0),U8 (0)],.bool false])/\Bw w b:=by
 have f:decide (a<=A)=true:=decide_eq_true c.2.1;have g:decide (n<=n)=true:=decide_eq_true (Int.le_refl _);go_enter Tryz.func145,Tryz.ntmps145
 go_wp2_with (first
  | (go_at_call 146;go_must (refine (qAf _ _ _).mono ?_);rintro e b ⟨rfl,rfl⟩)
  | (go_at_call 147;go_must (refine (qCi _ _ _ _).mono ?_);rintro e b ⟨rfl,rfl⟩))
 refine bodyPost_ret (v:=.tuple #[.agg #[U8 (0),U8 (0)],.bool false]) ?_ rfl ⟨rfl,by go_grown⟩;rw [results_cell_tmp rfl]
 simp [asAddr,Result.andThen]
 rw [qAe (a:=0) (A:=0)]
 all_goals go_cell
theorem qZb (a A n:Int)(w:World)(c:0<=a/\a<=A/\A<=18446744073709551615)(d:0<=n/\n<=18446744073709551615)(h:n<=A)(hm:a<n) :
  Cl 145 #[I4 19,.agg #[U8 a,U8 A],.agg #[U8 n,U8 n],.bool true] w fun e b=>e=.returned (.tuple #[.agg #[U8 (n),U8 (A)],.bool true])/\Bw w b:=by
 have f:decide (a<=A)=true:=decide_eq_true c.2.1;have g:decide (n<=n)=true:=decide_eq_true (Int.le_refl _);go_enter Tryz.func145,Tryz.ntmps145
 go_wp2_with (first
  | (go_at_call 146;go_must (refine (qAf _ _ _).mono ?_);rintro e b ⟨rfl,rfl⟩)
  | (go_at_call 147;go_must (refine (qCi _ _ _ _).mono ?_);rintro e b ⟨rfl,rfl⟩))
 refine bodyPost_ret (v:=.tuple #[.agg #[U8 (n),U8 (A)],.bool true]) ?_ rfl ⟨rfl,by go_grown⟩;rw [results_cell_tmp rfl]
 simp [asAddr,Result.andThen]
 rw [qAe (a:=n) (A:=A)]
 all_goals go_cell
theorem qZa (a A n:Int)(w:World)(c:0<=a/\a<=A/\A<=18446744073709551615)(d:0<=n/\n<=18446744073709551615)(h:n<=A)(hm:n<=a) :
  Cl 145 #[I4 19,.agg #[U8 a,U8 A],.agg #[U8 n,U8 n],.bool true] w fun e b=>e=.returned (.tuple #[.agg #[U8 (a),U8 (A)],.bool true])/\Bw w b:=by
 have f:decide (a<=A)=true:=decide_eq_true c.2.1;have g:decide (n<=n)=true:=decide_eq_true (Int.le_refl _);go_enter Tryz.func145,Tryz.ntmps145
 go_wp2_with (first
  | (go_at_call 146;go_must (refine (qAf _ _ _).mono ?_);rintro e b ⟨rfl,rfl⟩)
  | (go_at_call 147;go_must (refine (qCi _ _ _ _).mono ?_);rintro e b ⟨rfl,rfl⟩))
 refine bodyPost_ret (v:=.tuple #[.agg #[U8 (a),U8 (A)],.bool true]) ?_ rfl ⟨rfl,by go_grown⟩;rw [results_cell_tmp rfl]
 simp [asAddr,Result.andThen]
 rw [qAe (a:=a) (A:=A)]
 all_goals go_cell
theorem yAa (a A n:Int)(w:World)(c:0<=a/\a<=A/\A<=18446744073709551615)(d:0<=n/\n<=18446744073709551615)(h:qGv a A n=true) :
  Cl 145 #[I4 16,.agg #[U8 a,U8 A],.agg #[U8 n,U8 n],.bool true] w fun e b=>e=.returned (.tuple #[.agg #[U8 (n),U8 (n)],.bool true])/\Bw w b:=by
 have f:decide (a<=A)=true:=decide_eq_true c.2.1;have g:decide (n<=n)=true:=decide_eq_true (Int.le_refl _);go_enter Tryz.func145,Tryz.ntmps145
 go_wp2_with (first
  | (go_at_call 146;go_must (refine (qAf _ _ _).mono ?_);rintro e b ⟨rfl,rfl⟩)
  | (go_at_call 147;go_must (refine (qCi _ _ _ _).mono ?_);rintro e b ⟨rfl,rfl⟩))
 refine bodyPost_ret (v:=.tuple #[.agg #[U8 (n),U8 (n)],.bool true]) ?_ rfl ⟨rfl,by go_grown⟩;rw [results_cell_tmp rfl]
 simp [asAddr,Result.andThen]
 rw [qAe (a:=n) (A:=n)]
 all_goals go_cell
theorem qZh (a A n:Int)(w:World)(c:0<=a/\a<=A/\A<=18446744073709551615)(d:0<=n/\n<=18446744073709551615)(h:qGv a A n=false) :
  Cl 145 #[I4 16,.agg #[U8 a,U8 A],.agg #[U8 n,U8 n],.bool true] w fun e b=>e=.returned (.tuple #[.agg #[U8 (0),U8 (0)],.bool false])/\Bw w b:=by
 have f:decide (a<=A)=true:=decide_eq_true c.2.1;have g:decide (n<=n)=true:=decide_eq_true (Int.le_refl _);go_enter Tryz.func145,Tryz.ntmps145
 go_wp2_with (first
  | (go_at_call 146;go_must (refine (qAf _ _ _).mono ?_);rintro e b ⟨rfl,rfl⟩)
  | (go_at_call 147;go_must (refine (qCi _ _ _ _).mono ?_);rintro e b ⟨rfl,rfl⟩))
 refine bodyPost_ret (v:=.tuple #[.agg #[U8 (0),U8 (0)],.bool false]) ?_ rfl ⟨rfl,by go_grown⟩;rw [results_cell_tmp rfl]
 simp [asAddr,Result.andThen]
 rw [qAe (a:=0) (A:=0)]
 all_goals go_cell
theorem qZg (a A n:Int)(w:World)(c:0<=a/\a<=A/\A<=18446744073709551615)(d:0<=n/\n<=18446744073709551615)(h:qGv a A n=true) :
  Cl 145 #[I4 17,.agg #[U8 a,U8 A],.agg #[U8 n,U8 n],.bool false] w fun e b=>e=.returned (.tuple #[.agg #[U8 (n),U8 (n)],.bool true])/\Bw w b:=by
 have f:decide (a<=A)=true:=decide_eq_true c.2.1;have g:decide (n<=n)=true:=decide_eq_true (Int.le_refl _);go_enter Tryz.func145,Tryz.ntmps145
 go_wp2_with (first
  | (go_at_call 146;go_must (refine (qAf _ _ _).mono ?_);rintro e b ⟨rfl,rfl⟩)
  | (go_at_call 147;go_must (refine (qCi _ _ _ _).mono ?_);rintro e b ⟨rfl,rfl⟩))
 refine bodyPost_ret (v:=.tuple #[.agg #[U8 (n),U8 (n)],.bool true]) ?_ rfl ⟨rfl,by go_grown⟩;rw [results_cell_tmp rfl]
 simp [asAddr,Result.andThen]
 rw [qAe (a:=n) (A:=n)]
 all_goals go_cell
theorem qZz (a A n:Int)(w:World)(c:0<=a/\a<=A/\A<=18446744073709551615)(d:0<=n/\n<=18446744073709551615)(h:qGv a A n=false) :
  Cl 145 #[I4 17,.agg #[U8 a,U8 A],.agg #[U8 n,U8 n],.bool false] w fun e b=>e=.returned (.tuple #[.agg #[U8 (0),U8 (0)],.bool false])/\Bw w b:=by
 have f:decide (a<=A)=true:=decide_eq_true c.2.1;have g:decide (n<=n)=true:=decide_eq_true (Int.le_refl _);go_enter Tryz.func145,Tryz.ntmps145
 go_wp2_with (first
  | (go_at_call 146;go_must (refine (qAf _ _ _).mono ?_);rintro e b ⟨rfl,rfl⟩)
  | (go_at_call 147;go_must (refine (qCi _ _ _ _).mono ?_);rintro e b ⟨rfl,rfl⟩))
 refine bodyPost_ret (v:=.tuple #[.agg #[U8 (0),U8 (0)],.bool false]) ?_ rfl ⟨rfl,by go_grown⟩;rw [results_cell_tmp rfl]
 simp [asAddr,Result.andThen]
 rw [qAe (a:=0) (A:=0)]
 all_goals go_cell
theorem yAr (n:Int)(w:World)(c:0<=n/\n<=n/\n<=18446744073709551615)(d:0<=n/\n<=18446744073709551615)  :
  Cl 145 #[I4 16,.agg #[U8 n,U8 n],.agg #[U8 n,U8 n],.bool false] w fun e b=>e=.returned (.tuple #[.agg #[U8 (0),U8 (0)],.bool false])/\Bw w b:=by
 have f:decide (n<=n)=true:=decide_eq_true c.2.1;have g:decide (n<=n)=true:=decide_eq_true (Int.le_refl _);go_enter Tryz.func145,Tryz.ntmps145
 go_wp2_with (first
  | (go_at_call 146;go_must (refine (qAf _ _ _).mono ?_);rintro e b ⟨rfl,rfl⟩)
  | (go_at_call 147;go_must (refine (qCi _ _ _ _).mono ?_);rintro e b ⟨rfl,rfl⟩))
 refine bodyPost_ret (v:=.tuple #[.agg #[U8 (0),U8 (0)],.bool false]) ?_ rfl ⟨rfl,by go_grown⟩;rw [results_cell_tmp rfl]
 simp [asAddr,Result.andThen]
 rw [qAe (a:=0) (A:=0)]
 all_goals go_cell
theorem yAi (A n:Int)(w:World)(c:0<=n/\n<=A/\A<=18446744073709551615)(d:0<=n/\n<=18446744073709551615)(h:(A==n)=false)(g:IntKind.u64.wrap (n+1)=n+1) :
  Cl 145 #[I4 16,.agg #[U8 n,U8 A],.agg #[U8 n,U8 n],.bool false] w fun e b=>e=.returned (.tuple #[.agg #[U8 (n+1),U8 (A)],.bool true])/\Bw w b:=by
 have f:decide (n<=A)=true:=decide_eq_true c.2.1;have i:decide (n<=n)=true:=decide_eq_true (Int.le_refl _);go_enter Tryz.func145,Tryz.ntmps145
 go_wp2_with (first
  | (go_at_call 146;go_must (refine (qAf _ _ _).mono ?_);rintro e b ⟨rfl,rfl⟩)
  | (go_at_call 147;go_must (refine (qCi _ _ _ _).mono ?_);rintro e b ⟨rfl,rfl⟩))
 refine bodyPost_ret (v:=.tuple #[.agg #[U8 (n+1),U8 (A)],.bool true]) ?_ rfl ⟨rfl,by go_grown⟩;rw [results_cell_tmp rfl]
 simp [asAddr,Result.andThen]
 rw [qAe (a:=n+1) (A:=A)]
 all_goals go_cell
theorem yCl (a n:Int)(w:World)(c:0<=a/\a<=n/\n<=18446744073709551615)(d:0<=n/\n<=18446744073709551615)(h:(a==n)=false)(g:IntKind.u64.wrap (n-1)=n-1) :
  Cl 145 #[I4 16,.agg #[U8 a,U8 n],.agg #[U8 n,U8 n],.bool false] w fun e b=>e=.returned (.tuple #[.agg #[U8 (a),U8 (n-1)],.bool true])/\Bw w b:=by
 have f:decide (a<=n)=true:=decide_eq_true c.2.1;have i:decide (n<=n)=true:=decide_eq_true (Int.le_refl _);go_enter Tryz.func145,Tryz.ntmps145
 go_wp2_with (first
  | (go_at_call 146;go_must (refine (qAf _ _ _).mono ?_);rintro e b ⟨rfl,rfl⟩)
  | (go_at_call 147;go_must (refine (qCi _ _ _ _).mono ?_);rintro e b ⟨rfl,rfl⟩))
 refine bodyPost_ret (v:=.tuple #[.agg #[U8 (a),U8 (n-1)],.bool true]) ?_ rfl ⟨rfl,by go_grown⟩;rw [results_cell_tmp rfl]
 simp [asAddr,Result.andThen]
 rw [qAe (a:=a) (A:=n-1)]
 all_goals go_cell
theorem yBd (a A n:Int)(w:World)(c:0<=a/\a<=A/\A<=18446744073709551615)(d:0<=n/\n<=18446744073709551615)(h:(a==n)=false)(g:(A==n)=false) :
  Cl 145 #[I4 16,.agg #[U8 a,U8 A],.agg #[U8 n,U8 n],.bool false] w fun e b=>e=.returned (.tuple #[.agg #[U8 (a),U8 (A)],.bool true])/\Bw w b:=by
 have f:decide (a<=A)=true:=decide_eq_true c.2.1;have i:decide (n<=n)=true:=decide_eq_true (Int.le_refl _);go_enter Tryz.func145,Tryz.ntmps145
 go_wp2_with (first
  | (go_at_call 146;go_must (refine (qAf _ _ _).mono ?_);rintro e b ⟨rfl,rfl⟩)
  | (go_at_call 147;go_must (refine (qCi _ _ _ _).mono ?_);rintro e b ⟨rfl,rfl⟩))
 refine bodyPost_ret (v:=.tuple #[.agg #[U8 (a),U8 (A)],.bool true]) ?_ rfl ⟨rfl,by go_grown⟩;rw [results_cell_tmp rfl]
 simp [asAddr,Result.andThen]
 rw [qAe (a:=a) (A:=A)]
 all_goals go_cell
theorem yDh (n:Int)(w:World)(c:0<=n/\n<=n/\n<=18446744073709551615)(d:0<=n/\n<=18446744073709551615)  :
  Cl 145 #[I4 17,.agg #[U8 n,U8 n],.agg #[U8 n,U8 n],.bool true] w fun e b=>e=.returned (.tuple #[.agg #[U8 (0),U8 (0)],.bool false])/\Bw w b:=by
 have f:decide (n<=n)=true:=decide_eq_true c.2.1;have g:decide (n<=n)=true:=decide_eq_true (Int.le_refl _);go_enter Tryz.func145,Tryz.ntmps145
 go_wp2_with (first
  | (go_at_call 146;go_must (refine (qAf _ _ _).mono ?_);rintro e b ⟨rfl,rfl⟩)
  | (go_at_call 147;go_must (refine (qCi _ _ _ _).mono ?_);rintro e b ⟨rfl,rfl⟩))
 refine bodyPost_ret (v:=.tuple #[.agg #[U8 (0),U8 (0)],.bool false]) ?_ rfl ⟨rfl,by go_grown⟩;rw [results_cell_tmp rfl]
 simp [asAddr,Result.andThen]
 rw [qAe (a:=0) (A:=0)]
 all_goals go_cell
theorem yBw (A n:Int)(w:World)(c:0<=n/\n<=A/\A<=18446744073709551615)(d:0<=n/\n<=18446744073709551615)(h:(A==n)=false)(g:IntKind.u64.wrap (n+1)=n+1) :
  Cl 145 #[I4 17,.agg #[U8 n,U8 A],.agg #[U8 n,U8 n],.bool true] w fun e b=>e=.returned (.tuple #[.agg #[U8 (n+1),U8 (A)],.bool true])/\Bw w b:=by
 have f:decide (n<=A)=true:=decide_eq_true c.2.1;have i:decide (n<=n)=true:=decide_eq_true (Int.le_refl _);go_enter Tryz.func145,Tryz.ntmps145
 go_wp2_with (first
  | (go_at_call 146;go_must (refine (qAf _ _ _).mono ?_);rintro e b ⟨rfl,rfl⟩)
  | (go_at_call 147;go_must (refine (qCi _ _ _ _).mono ?_);rintro e b ⟨rfl,rfl⟩))
 refine bodyPost_ret (v:=.tuple #[.agg #[U8 (n+1),U8 (A)],.bool true]) ?_ rfl ⟨rfl,by go_grown⟩;rw [results_cell_tmp rfl]
 simp [asAddr,Result.andThen]
 rw [qAe (a:=n+1) (A:=A)]
 all_goals go_cell
theorem yDp (a n:Int)(w:World)(c:0<=a/\a<=n/\n<=18446744073709551615)(d:0<=n/\n<=18446744073709551615)(h:(a==n)=false)(g:IntKind.u64.wrap (n-1)=n-1) :
  Cl 145 #[I4 17,.agg #[U8 a,U8 n],.agg #[U8 n,U8 n],.bool true] w fun e b=>e=.returned (.tuple #[.agg #[U8 (a),U8 (n-1)],.bool true])/\Bw w b:=by
 have f:decide (a<=n)=true:=decide_eq_true c.2.1;have i:decide (n<=n)=true:=decide_eq_true (Int.le_refl _);go_enter Tryz.func145,Tryz.ntmps145
 go_wp2_with (first
  | (go_at_call 146;go_must (refine (qAf _ _ _).mono ?_);rintro e b ⟨rfl,rfl⟩)
  | (go_at_call 147;go_must (refine (qCi _ _ _ _).mono ?_);rintro e b ⟨rfl,rfl⟩))
 refine bodyPost_ret (v:=.tuple #[.agg #[U8 (a),U8 (n-1)],.bool true]) ?_ rfl ⟨rfl,by go_grown⟩;rw [results_cell_tmp rfl]
 simp [asAddr,Result.andThen]
 rw [qAe (a:=a) (A:=n-1)]
 all_goals go_cell
theorem yAz (a A n:Int)(w:World)(c:0<=a/\a<=A/\A<=18446744073709551615)(d:0<=n/\n<=18446744073709551615)(h:(a==n)=false)(g:(A==n)=false) :
  Cl 145 #[I4 17,.agg #[U8 a,U8 A],.agg #[U8 n,U8 n],.bool true] w fun e b=>e=.returned (.tuple #[.agg #[U8 (a),U8 (A)],.bool true])/\Bw w b:=by
 have f:decide (a<=A)=true:=decide_eq_true c.2.1;have i:decide (n<=n)=true:=decide_eq_true (Int.le_refl _);go_enter Tryz.func145,Tryz.ntmps145
 go_wp2_with (first
  | (go_at_call 146;go_must (refine (qAf _ _ _).mono ?_);rintro e b ⟨rfl,rfl⟩)
  | (go_at_call 147;go_must (refine (qCi _ _ _ _).mono ?_);rintro e b ⟨rfl,rfl⟩))
 refine bodyPost_ret (v:=.tuple #[.agg #[U8 (a),U8 (A)],.bool true]) ?_ rfl ⟨rfl,by go_grown⟩;rw [results_cell_tmp rfl]
 simp [asAddr,Result.andThen]
 rw [qAe (a:=a) (A:=A)]
 all_goals go_cell
theorem xCa (op a A b B:Int)(w:World)(h:op<1) :
  Cl 143 #[I4 op,.agg #[U8 a,U8 A],.agg #[U8 b,U8 B]] w fun e c=>e=.returned (.tuple #[.agg #[U8 (0),U8 (0)],.bool false])/\Bw w c:=by
 go_enter Tryz.func143,Tryz.ntmps143
 go_wp2_with (go_at_call 146;go_must (refine (qAf _ _ _).mono ?_);rintro e c ⟨rfl,rfl⟩)
 all_goals refine bodyPost_ret (v:=.tuple #[.agg #[U8 (0),U8 (0)],.bool false]) ?_ rfl ⟨rfl,by go_grown⟩
 all_goals rw [results_cell_tmp rfl]
 all_goals simp [asAddr,Result.andThen]
 all_goals rw [qAe (a:=0) (A:=0)]
 all_goals go_cell
theorem xBk (op a A b B:Int)(w:World)(h:¬ op<1)(d:10<op) :
  Cl 143 #[I4 op,.agg #[U8 a,U8 A],.agg #[U8 b,U8 B]] w fun e c=>e=.returned (.tuple #[.agg #[U8 (0),U8 (0)],.bool false])/\Bw w c:=by
 go_enter Tryz.func143,Tryz.ntmps143
 go_wp2_with (go_at_call 146;go_must (refine (qAf _ _ _).mono ?_);rintro e c ⟨rfl,rfl⟩)
 all_goals refine bodyPost_ret (v:=.tuple #[.agg #[U8 (0),U8 (0)],.bool false]) ?_ rfl ⟨rfl,by go_grown⟩
 all_goals rw [results_cell_tmp rfl]
 all_goals simp [asAddr,Result.andThen]
 all_goals rw [qAe (a:=0) (A:=0)]
 all_goals go_cell
theorem xBi (op a A b B:Int)(w:World)(h:1<=op/\op<=10)(d:decide (a<=A)=false) :
  Cl 143 #[I4 op,.agg #[U8 a,U8 A],.agg #[U8 b,U8 B]] w fun e c=>e=.returned (.tuple #[.agg #[U8 (0),U8 (0)],.bool false])/\Bw w c:=by
 go_enter Tryz.func143,Tryz.ntmps143
 go_wp2_with (go_at_call 146;go_must (refine (qAf _ _ _).mono ?_);rintro e c ⟨rfl,rfl⟩)
 all_goals refine bodyPost_ret (v:=.tuple #[.agg #[U8 (0),U8 (0)],.bool false]) ?_ rfl ⟨rfl,by go_grown⟩
 all_goals rw [results_cell_tmp rfl]
 all_goals simp [asAddr,Result.andThen]
 all_goals rw [qAe (a:=0) (A:=0)]
 all_goals go_cell
theorem xBy (op a A b B:Int)(w:World)(h:1<=op/\op<=10)(f:decide (a<=A)=true)(d:decide (b<=B)=false) :
  Cl 143 #[I4 op,.agg #[U8 a,U8 A],.agg #[U8 b,U8 B]] w fun e c=>e=.returned (.tuple #[.agg #[U8 (0),U8 (0)],.bool false])/\Bw w c:=by
 go_enter Tryz.func143,Tryz.ntmps143
 go_wp2_with (go_at_call 146;go_must (refine (qAf _ _ _).mono ?_);rintro e c ⟨rfl,rfl⟩)
 all_goals refine bodyPost_ret (v:=.tuple #[.agg #[U8 (0),U8 (0)],.bool false]) ?_ rfl ⟨rfl,by go_grown⟩
 all_goals rw [results_cell_tmp rfl]
 all_goals simp [asAddr,Result.andThen]
 all_goals rw [qAe (a:=0) (A:=0)]
 all_goals go_cell
theorem yYu (op a A b B:Int)(d:Bool)(w:World)(h:op<16) :
  Cl 145 #[I4 op,.agg #[U8 a,U8 A],.agg #[U8 b,U8 B],.bool d] w fun e c=>e=.returned (.tuple #[.agg #[U8 (0),U8 (0)],.bool false])/\Bw w c:=by
 go_enter Tryz.func145,Tryz.ntmps145
 go_wp2_with (go_at_call 146;go_must (refine (qAf _ _ _).mono ?_);rintro e c ⟨rfl,rfl⟩)
 all_goals refine bodyPost_ret (v:=.tuple #[.agg #[U8 (0),U8 (0)],.bool false]) ?_ rfl ⟨rfl,by go_grown⟩
 all_goals rw [results_cell_tmp rfl]
 all_goals simp [asAddr,Result.andThen]
 all_goals rw [qAe (a:=0) (A:=0)]
 all_goals go_cell
theorem yZn (op a A b B:Int)(d:Bool)(w:World)(h:¬ op<16)(f:19<op) :
  Cl 145 #[I4 op,.agg #[U8 a,U8 A],.agg #[U8 b,U8 B],.bool d] w fun e c=>e=.returned (.tuple #[.agg #[U8 (0),U8 (0)],.bool false])/\Bw w c:=by
 go_enter Tryz.func145,Tryz.ntmps145
 go_wp2_with (go_at_call 146;go_must (refine (qAf _ _ _).mono ?_);rintro e c ⟨rfl,rfl⟩)
 all_goals refine bodyPost_ret (v:=.tuple #[.agg #[U8 (0),U8 (0)],.bool false]) ?_ rfl ⟨rfl,by go_grown⟩
 all_goals rw [results_cell_tmp rfl]
 all_goals simp [asAddr,Result.andThen]
 all_goals rw [qAe (a:=0) (A:=0)]
 all_goals go_cell
theorem yXr (op a A b B:Int)(d:Bool)(w:World)(h:16<=op/\op<=19)(f:decide (a<=A)=false) :
  Cl 145 #[I4 op,.agg #[U8 a,U8 A],.agg #[U8 b,U8 B],.bool d] w fun e c=>e=.returned (.tuple #[.agg #[U8 (0),U8 (0)],.bool false])/\Bw w c:=by
 go_enter Tryz.func145,Tryz.ntmps145
 go_wp2_with (go_at_call 146;go_must (refine (qAf _ _ _).mono ?_);rintro e c ⟨rfl,rfl⟩)
 all_goals refine bodyPost_ret (v:=.tuple #[.agg #[U8 (0),U8 (0)],.bool false]) ?_ rfl ⟨rfl,by go_grown⟩
 all_goals rw [results_cell_tmp rfl]
 all_goals simp [asAddr,Result.andThen]
 all_goals rw [qAe (a:=0) (A:=0)]
 all_goals go_cell
theorem yYe (op a A b B:Int)(d:Bool)(w:World)(h:16<=op/\op<=19)(g:decide (a<=A)=true)(f:decide (b<=B)=false) :
  Cl 145 #[I4 op,.agg #[U8 a,U8 A],.agg #[U8 b,U8 B],.bool d] w fun e c=>e=.returned (.tuple #[.agg #[U8 (0),U8 (0)],.bool false])/\Bw w c:=by
 go_enter Tryz.func145,Tryz.ntmps145
 go_wp2_with (go_at_call 146;go_must (refine (qAf _ _ _).mono ?_);rintro e c ⟨rfl,rfl⟩)
 all_goals refine bodyPost_ret (v:=.tuple #[.agg #[U8 (0),U8 (0)],.bool false]) ?_ rfl ⟨rfl,by go_grown⟩
 all_goals rw [results_cell_tmp rfl]
 all_goals simp [asAddr,Result.andThen]
 all_goals rw [qAe (a:=0) (A:=0)]
 all_goals go_cell
theorem yNq (op a A b B:Int)(d:Bool)(w:World)(h:16<=op/\op<=19)(i:decide (a<=A)=true)(f:decide (b<=B)=true)(g:(b==B)=false) :
  Cl 145 #[I4 op,.agg #[U8 a,U8 A],.agg #[U8 b,U8 B],.bool d] w fun e c=>e=.returned (.tuple #[.agg #[U8 (a),U8 (A)],.bool true])/\Bw w c:=by
 go_enter Tryz.func145,Tryz.ntmps145
 go_wp2_with (go_at_call 146;go_must (refine (qAf _ _ _).mono ?_);rintro e c ⟨rfl,rfl⟩)
 all_goals refine bodyPost_ret (v:=.tuple #[.agg #[U8 (a),U8 (A)],.bool true]) ?_ rfl ⟨rfl,by go_grown⟩
 all_goals rw [results_cell_tmp rfl]
 all_goals simp [asAddr,Result.andThen]
 all_goals rw [qAe (a:=a) (A:=A)]
 all_goals go_cell
def qBh:Option (Int×Int)->Value
 | none=>.tuple #[.agg #[.int .u64 0,.int .u64 0],.bool false]
 | some p=>.tuple #[.agg #[.int .u64 p.1,.int .u64 p.2],.bool true]
def qDb (op a A b B:Int) (h:Bool):Option (Int×Int):=if (16<=op/\op<=19)/\a<=A/\b<=B then qEo op a A b B h else none
def doR (op a A b B:Int):Option (Int×Int):=if (1<=op/\op<=10)/\a<=A/\b<=B then some (qBn op a A b B) else none
theorem qGl {x:Int}(h0:0<=x)(h:x<=18446744073709551615):IntKind.u64.wrap x=x:=by rw [IntKind.wrap_u64];omega

theorem yRv (op:Int)(h:Bool)(g:qJz op h=true)(a A n:Int)(w:World)(c:0<=a/\a<=A/\A<=18446744073709551615)(b:0<=n/\n<=18446744073709551615) :
  Cl 145 #[I4 op,.agg #[U8 a,U8 A],.agg #[U8 n,U8 n],.bool h] w fun e i=>e=.returned (qBh (if n<=a then none else some (a,min A (n-1))))/\Bw w i:=by
 have f:(op=18/\h=true)∨(op=19/\h=false):=by
  unfold qJz at g
  cases h<;>simp at g ⊢<;>exact g
 by_cases h1:n<=a
 ·rw [if_pos h1]
  rcases f with ⟨rfl,rfl⟩|⟨rfl,rfl⟩
  ·exact qZp a A n w c b h1
  ·exact qZr a A n w c b h1
 rw [if_neg h1];have d:=qGl (x:=n-1) (by omega) (by omega)
 by_cases h2:A<=n-1
 ·rw [Int.min_eq_left h2]
  rcases f with ⟨rfl,rfl⟩|⟨rfl,rfl⟩
  ·exact yAb a A n w c b (by omega) d h2
  ·exact qZy a A n w c b (by omega) d h2
 ·rw [Int.min_eq_right (by omega)]
  rcases f with ⟨rfl,rfl⟩|⟨rfl,rfl⟩
  ·exact qZt a A n w c b (by omega) d (by omega)
  ·exact qZl a A n w c b (by omega) d (by omega)
theorem yMz (op:Int)(h:Bool)(d:(op=18/\h=false)∨(op=19/\h=true))(a A n:Int)(w:World)(c:0<=a/\a<=A/\A<=18446744073709551615)(b:0<=n/\n<=18446744073709551615) :
  Cl 145 #[I4 op,.agg #[U8 a,U8 A],.agg #[U8 n,U8 n],.bool h] w fun e f=>e=.returned (qBh (if A<n then none else some (max a n,A)))/\Bw w f:=by
 by_cases h1:A<n
 ·rw [if_pos h1]
  rcases d with ⟨rfl,rfl⟩|⟨rfl,rfl⟩
  ·exact qYz a A n w c b h1
  ·exact qZu a A n w c b h1
 rw [if_neg h1]
 by_cases h2:a<n
 ·rw [Int.max_eq_right (by omega)]
  rcases d with ⟨rfl,rfl⟩|⟨rfl,rfl⟩
  ·exact qZe a A n w c b (by omega) h2
  ·exact qZb a A n w c b (by omega) h2
 ·rw [Int.max_eq_left (by omega)]
  rcases d with ⟨rfl,rfl⟩|⟨rfl,rfl⟩
  ·exact yAc a A n w c b (by omega) (by omega)
  ·exact qZa a A n w c b (by omega) (by omega)
theorem yNu (op:Int)(h:Bool)(f:(op=16/\h=true)∨(op=17/\h=false))(a A n:Int)(w:World)(d:0<=a/\a<=A/\A<=18446744073709551615)(c:0<=n/\n<=18446744073709551615) :
  Cl 145 #[I4 op,.agg #[U8 a,U8 A],.agg #[U8 n,U8 n],.bool h] w fun e g=>e=.returned (qBh (if a<=n/\n<=A then some (n,n) else none))/\Bw w g:=by
 by_cases h1:a<=n/\n<=A
 ·rw [if_pos h1]
  have b:qGv a A n=true:=by simp [qGv];omega
  rcases f with ⟨rfl,rfl⟩|⟨rfl,rfl⟩
  ·exact yAa a A n w d c b
  ·exact qZg a A n w d c b
 ·rw [if_neg h1]
  have b:qGv a A n=false:=by simp [qGv];omega
  rcases f with ⟨rfl,rfl⟩|⟨rfl,rfl⟩
  ·exact qZh a A n w d c b
  ·exact qZz a A n w d c b
theorem yVe (op:Int)(h:Bool)(g:(op=16/\h=false)∨(op=17/\h=true))(a A n:Int)(w:World)(c:0<=a/\a<=A/\A<=18446744073709551615)(b:0<=n/\n<=18446744073709551615) :
  Cl 145 #[I4 op,.agg #[U8 a,U8 A],.agg #[U8 n,U8 n],.bool h] w fun e k=>e=.returned (qBh (if a=n/\A=n then none else if a=n then some (n+1,A) else if A=n then some (a,n-1) else some (a,A)))/\Bw w k:=by
 by_cases h1:a=n/\A=n
 ·rw [if_pos h1];obtain ⟨rfl,rfl⟩:=h1
  rcases g with ⟨rfl,rfl⟩|⟨rfl,rfl⟩
  ·exact yAr _ w c b
  ·exact yDh _ w c b
 rw [if_neg h1]
 by_cases h2:a=n
 ·rw [if_pos h2];subst h2;have f:=qGl (x:=a+1) (by omega) (by omega)
  have hA:(A==a)=false:=by simp;omega
  rcases g with ⟨rfl,rfl⟩|⟨rfl,rfl⟩
  ·exact yAi A a w c b hA f
  ·exact yBw A a w c b hA f
 rw [if_neg h2]
 have d:(a==n)=false:=by simpa using h2
 by_cases h3:A=n
 ·rw [if_pos h3];subst h3;have f:=qGl (x:=A-1) (by omega) (by omega)
  rcases g with ⟨rfl,rfl⟩|⟨rfl,rfl⟩
  ·exact yCl a A w c b d f
  ·exact yDp a A w c b d f
 ·rw [if_neg h3]
  have i:(A==n)=false:=by simpa using h3
  rcases g with ⟨rfl,rfl⟩|⟨rfl,rfl⟩
  ·exact yBd a A n w c b d i
  ·exact yAz a A n w c b d i
theorem yEo (op a A b B:Int)(h:Bool)(w:World)(f:W64 a)(hA:W64 A)(d:W64 b)(k:W64 B) :
  Cl 145 #[I4 op,.agg #[U8 a,U8 A],.agg #[U8 b,U8 B],.bool h] w fun e i=>e=.returned (qBh (qDb op a A b B h))/\Bw w i:=by
 unfold W64 at f hA d k;unfold qDb
 by_cases c1:op<16
 ·rw [if_neg (by omega)];exact yYu op a A b B h w c1
 by_cases c2:19<op
 ·rw [if_neg (by omega)];exact yZn op a A b B h w c1 c2
 have c:16<=op/\op<=19:=by omega
 by_cases c3:a<=A
 case neg=>rw [if_neg (by omega)];exact yXr op a A b B h w c (decide_eq_false c3)
 by_cases c4:b<=B
 case neg=>rw [if_neg (by omega)];exact yYe op a A b B h w c (decide_eq_true c3) (decide_eq_false c4)
 rw [if_pos ⟨c,c3,c4⟩];unfold qEo
 by_cases c5:b≠B
 ·rw [if_pos c5];exact yNq op a A b B h w c (decide_eq_true c3) (decide_eq_true c4) (by simpa using c5)
 rw [if_neg c5]
 obtain rfl:b=B:=by omega
 by_cases c6:qJz op h=true
 ·rw [if_pos c6];exact yRv op h c6 a A b w ⟨f.1,c3,hA.2⟩ d
 rw [if_neg c6]
 by_cases c7:18<=op
 ·rw [if_pos c7];refine yMz op h ?_ a A b w ⟨f.1,c3,hA.2⟩ d
  have:op=18∨op=19:=by omega
  rcases this with rfl|rfl<;>cases h<;>simp [qJz] at c6 ⊢
 rw [if_neg c7]
 have g:op=16∨op=17:=by omega
 by_cases c9:qOk op h=true
 ·rw [if_pos c9];refine yNu op h ?_ a A b w ⟨f.1,c3,hA.2⟩ d
  rcases g with rfl|rfl<;>cases h<;>simp [qOk] at c9 ⊢
 ·rw [if_neg c9];refine yVe op h ?_ a A b w ⟨f.1,c3,hA.2⟩ d
  rcases g with rfl|rfl<;>cases h<;>simp [qOk] at c9 ⊢
theorem yZj (op a b:Int)(w:World)(l:1<=op/\op<=10)(k:0<=a/\a<=18446744073709551615)(i:0<=b/\b<=18446744073709551615) :
  Cl 143 #[I4 op,.agg #[U8 a,U8 a],.agg #[U8 b,U8 b]] w fun e d=>e=.returned (.tuple #[.agg #[U8 (doL op a b),U8 (doL op a b)],.bool true])/\Bw w d:=by
 have n:decide (a<=a)=true:=decide_eq_true (Int.le_refl _);have o:decide (b<=b)=true:=decide_eq_true (Int.le_refl _);obtain ⟨N,f⟩:∃ N,Hid (N=doL op a b):=⟨_,rfl⟩;obtain ⟨c,g⟩:∃ c,Hid (c=qFf op):=⟨_,rfl⟩;rw [<- f.out];go_enter Tryz.func143,Tryz.ntmps143
 go_wp2_with (first
  | (go_at_call 146;go_must (refine (qAf _ _ _).mono ?_);rintro e d ⟨rfl,rfl⟩)
  | (go_at_call 68;go_must (refine (yNn f g _ k i).mono ?_);rintro e d ⟨rfl,rfl⟩))
 refine bodyPost_ret (v:=.tuple #[.agg #[U8 N,U8 N],.bool true]) ?_ rfl ⟨rfl,by go_grown⟩;rw [results_cell_tmp rfl]
 simp [asAddr,Result.andThen]
 rw [qAe (a:=N) (A:=N)]
 all_goals go_cell
end Go.Proofs.YtmdhljoicnommaaGreat
