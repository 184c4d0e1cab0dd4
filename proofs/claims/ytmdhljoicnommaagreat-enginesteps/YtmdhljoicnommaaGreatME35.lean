/-
  JCop
  JCopO
  JOpen
-/
import Derived.Test.YtmdhljoicnommaaGreatME33
import Derived.Test.YtmdhljoicnommaaGreatME30
import Derived.Deep.DrawnRows
import Derived.Deep.Upon
import Derived.ArgAppend
import Derived.Maps.RangeWalk
namespace Go.Proofs.YtmdhljoicnommaaGreat
set_option maxHeartbeats 12800000
open Go.RowKit
set_option linter.unusedVariables false
set_option maxRecDepth 100000
open Go.ChangeShapes Go.WideShapes Go.ChangeAt Go.RowKit
attribute [local go_sem ↓] Go.wp_at_zero Go.wp_at_succ

theorem Sees.kept {k:IntKind}{w l:World}{v:Value}{xs:List Int}{r:Option Nat}(h:Sees k w v xs)(n:w.grownBy l r)(c:xs=[]∨v.ownBlock≠r):Sees k l v xs:=by
 obtain ⟨a,cap,rfl,z,hm,g,u,s⟩:=h;refine ⟨a,cap,rfl,z,hm,g,u,fun d=>?_⟩;obtain ⟨b,off,rfl,f,y⟩:=s d;refine ⟨b,off,rfl,Nat.lt_of_lt_of_le f n.size,fun i hi=>?_⟩
 have o:some b≠r:=by
  rcases c with c|c
  ·exact absurd c d
  ·exact c
 have:=y i hi;unfold World.cell? at this ⊢;rw [n.block b f o];exact this
theorem qWa {w a:World}{row:Option Nat}{b:Nat}(f:w.grownBy a row)(d:b<w.heap.size)(j:Nat)(c:¬ row=some b):a.cell? ⟨b,j,none⟩=w.cell? ⟨b,j,none⟩:=by
 unfold World.cell?;rw [f.block b d (fun e=>c e.symm)]
theorem qMy (w:World)(a:Addr)(u:Value):w.grownBy (w.setCell a u) (some a.block) :=
 ⟨rfl,rfl,rfl,by simp,fun k _ b=>heap_setCell_other w a k u (fun e=>b (by rw [e]))⟩
theorem qJd (w:World)(o:Obj)(r:Option Nat):w.grownBy (w.alloc o) r:=qBz ((Below.refl _ _).alloc (Nat.le_refl _) o) r
theorem qXl:(Tryz.prog.info? 43).map (fun i=>(i.zero,i.size,i.bytes))=some (some (qAl 0 0 0 0 0),5,40):=by kernel_rfl
theorem yDj:(Tryz.prog.info? 3).map (fun i=>(i.zero,i.size,i.bytes))=some (some (I4 0),1,8):=by kernel_rfl
def MdC (w:World) (n:Nat) (vm vc:Value):Prop:=w.heap[n]? = some (.cells #[vm,vc] 25 (0,0))
theorem MdC.cells {w:World}{n:Nat}{vm a:Value}(h:MdC w n vm a):w.cell? ⟨n,0,none⟩=some vm/\w.cell? ⟨n,1,none⟩=some a:=⟨cell_of_row w n 0 _ _ _ h,cell_of_row w n 1 _ _ _ h⟩
theorem MdC.frozen {w:World}{n:Nat}{vm a:Value}(h:MdC w n vm a)(j:Nat):w.frozen? ⟨n,j,none⟩=false:=frozen_of_row w n j _ _ h
theorem MdC.lt {w:World}{n:Nat}{vm a:Value}(h:MdC w n vm a):n<w.heap.size:=(Array.getElem?_eq_some_iff.1 h).1
theorem MdC.kept {w a:World}{n:Nat}{vm b:Value}{row:Option Nat}(h:MdC w n vm b)(c:w.grownBy a row)(d:row≠some n):MdC a n vm b:=by
 unfold MdC;rw [c.block n h.lt (fun e=>d e.symm)];exact h
theorem MdC.new (w:World)(vm a:Value):MdC (w.alloc (.cells #[vm,a] 25)) w.heap.size vm a:=heap_alloc_new w _
theorem MdC.set {w:World}{n:Nat}{vm b:Value}(h:MdC w n vm b)(um a:Value):MdC ((w.setCell ⟨n,0,none⟩ um).setCell ⟨n,1,none⟩ a) n um a:=heap_setCell_same _ n 1 _ _ _ (heap_setCell_same w n 0 _ _ _ h)
abbrev yTr (vm vc:Value):Value:=.agg #[vm,vc]

structure SeesM (w:World) (vm vc:Value) (ms:List Int) (is:List In):Prop where
 maps:Sees .i64 w vm ms
 code:SeesI w vc is
 wf:∀ i∈is,i.wf
theorem SeesM.below {w a:World}{vm c:Value}{ms:List Int}{is:List In}(h:SeesM w vm c ms is)(b:Bw w a):SeesM a vm c ms is:=⟨h.maps.below b (Nat.le_refl _),h.code.below b,h.wf⟩
theorem yFh (w:World)(o:Obj):Bw w (w.alloc o):=(Below.refl _ _).alloc (Nat.le_refl _) o
theorem qYb {P:Program}{size:Nat}{t e:TypeId}(h:P.underlying t=some (.slice e))(a:Option Addr)(cap:Nat)(w:World):Src P size t (.slice a 0 cap) 0 [] w:=by
 refine ⟨.inl ⟨e,h⟩,fun b=>by simp [Builtin.lenOf],?_,?_,by simp,by simp⟩
 ·cases a with
  | none=>simp [Builtin.firstCells]
  | some ad=>simp [Builtin.firstCells];exact run_loadCells_list (P:=P) w ad [] (by simp)
 ·cases a with
  | none=>simp [Builtin.firstCells]
  | some ad=>simp [Builtin.firstCells];exact run_loadCells_list (P:=P) w.drew ad [] (by simp)
theorem SeesI.kept {w i:World}{v:Value}{xs:List In}{r:Option Nat}(h:SeesI w v xs)(o:w.grownBy i r)(d:xs=[]∨v.ownBlock≠r):SeesI i v xs:=by
 obtain ⟨a,cap,rfl,z,hm,n,u⟩:=h;refine ⟨a,cap,rfl,z,hm,n,fun f=>?_⟩;obtain ⟨b,off,rfl,g,l⟩:=u f;refine ⟨b,off,rfl,Nat.lt_of_lt_of_le g o.size,fun k y=>?_⟩
 have s:¬ r=some b:=by
  rcases d with d|d
  ·exact absurd d f
  ·exact fun e=>d e.symm
 have c:∀ j,i.cell? ⟨b,j,none⟩=w.cell? ⟨b,j,none⟩:=fun j=>qWa o g j s
 unfold At;rw [c,c,c,c,c];exact l k y
structure Cpr (W0:World) (n1 n2:Nat) (vm vc:Value) (w':World):Prop where
 md:MdC w' n1 vm vc
 two:∃ um uc,MdC w' n2 um uc
 g:W0.grownBy w' (some n2)
theorem Cpr.grown {k:World}{b i:Nat}{vm f:Value}{c d:World}(h:Cpr k b i vm f c)(a:c.grownBy d none):Cpr k b i vm f d :=
 ⟨h.md.kept a (by simp),by obtain ⟨um,l,n⟩:=h.two;exact ⟨um,l,n.kept a (by simp)⟩,h.g.trans (a.but _)⟩
theorem Cpr.alloc {f:World}{a d:Nat}{vm c:Value}{b:World}(h:Cpr f a d vm c b)(o:Obj):Cpr f a d vm c (b.alloc o):=h.grown (qJd _ _ none)
theorem Cpr.drew {f:World}{a d:Nat}{vm c:Value}{b:World}(h:Cpr f a d vm c b):Cpr f a d vm c b.drew:=h.grown ⟨rfl,rfl,rfl,Nat.le_refl _,fun _ _ _=>rfl⟩
theorem Cpr.store {k:World}{b a:Nat}{vm i:Value}{d:World}(h:Cpr k b a vm i d)(l:b≠a)(um c:Value):Cpr k b a vm i ((d.setCell ⟨a,0,none⟩ um).setCell ⟨a,1,none⟩ c):=by
 have f:=(qMy d ⟨a,0,none⟩ um).trans (qMy _ ⟨a,1,none⟩ c);obtain ⟨r,o,n⟩:=h.two;exact ⟨h.md.kept f (by simp;exact fun e=>l e.symm),⟨_,_,n.set um c⟩,h.g.trans f⟩
theorem Cpr.all {f:World}{a d:Nat}{vm c:Value}{b:World}(h:Cpr f a d vm c b):(b.cell? ⟨a,0,none⟩=some vm/\b.cell? ⟨a,1,none⟩=some c)/\Cpr f a d vm c b:=⟨h.md.cells,h⟩

attribute [local go_sem ↓] Go.wp_at_zero Go.wp_at_succ

def OwnOr (w:World) (B:Nat) (e:TypeId) (z:Nat) (v:Value) (n:Nat) (xs:List Value):Prop:=(n=0/\∃ ad,v=.slice (some ad) 0 0)∨w.ownsRow B e z v n xs
theorem qPe {w:World}{B b:Nat}{e:TypeId}{z:Nat}{v:Value}{n:Nat}{xs:List Value}(h:w.ownsRow B e z v n xs)(f:b<=B):w.ownsRow b e z v n xs:=by
 rcases h with ⟨a,l|⟨g,cap,c,i,d,k,r⟩⟩
 ·exact ⟨a,.inl l⟩
 ·exact ⟨a,.inr ⟨g,cap,c,i,Nat.le_trans f d,k,r⟩⟩
theorem OwnOr.blocks {w:World}{B:Nat}{e:TypeId}{z:Nat}{v:Value}{n:Nat}{xs:List Value}(h:OwnOr w B e z v n xs):n=0∨∀ j,v.ownBlock=some j->B<=j:=by
 rcases h with h|h
 ·exact .inl h.1
 ·exact .inr fun j a=>(h.lt j a).1
theorem OwnOr.low {w:World}{B a:Nat}{e:TypeId}{z:Nat}{v:Value}{n:Nat}{xs:List Value}(h:OwnOr w B e z v n xs)(b:a<=B):OwnOr w a e z v n xs:=h.imp id fun h=>qPe h b
theorem OwnOr.kept {w a:World}{B:Nat}{e:TypeId}{z:Nat}{v:Value}{n:Nat}{xs:List Value}{b:Nat}(h:OwnOr w B e z v n xs)(c:w.grownBy a (some b))(d:b<B):OwnOr a B e z v n xs:=by
 rcases h with h|h
 ·exact .inl h
 ·refine .inr (h.kept c ?_)
  cases hv:v.ownBlock with
  | none=>exact .inl rfl
  | some k =>
   refine .inr fun e=>?_
   have:=(h.lt k hv).1;injection e with e
   omega
theorem yGy {P:Program}{D:Array Oper}{o:Oper}{a:Act}{w:World}{K:Act->World->Prop}{Q:Exit->Act->World->Prop}{E:Prop}(hg:o.guard=none)(s x:Operand)(t:TypeId)(F:o.op=Op.call { callee:=Callee.builtin Builtin.append,args:=#[s,x],argTypes:=#[t,t] })(e:TypeId)(i:TypeInfo)(z:Value)(bytes:Nat)(I:P.underlying t=some (.slice e))(O:P.info? e=some i)(h3:i.zero=some z)(h4:i.size=1)(X:i.bytes=bytes)(V:z.cells.size=1)(k:IntKind)(l:∃ r,a.eval s=.slice (some r) 0 0)(G:Value)(c:List Int)(T:a.eval x=G)(g:Sees k w G c)(B:Nat)(hB:B<=w.heap.size)(b1:c.length<=maxLen)(b2:c.length*bytes<=140737488355328)(hK:∀ A f,Sees k f A c->OwnOr f B e 1 A c.length (c.map (Value.int k))->w.grownBy f none->K (a.put o.dst A) f) :
  if Region.wanted o (yielded D a.tmps)=true then Oper.wp P o a w K Q else E:=by
 have hw:Region.wanted o (yielded D a.tmps)=true:=by simp [Region.wanted,hg]
 rw [if_pos hw];obtain ⟨r,l⟩:=l;have S:=g.wf;obtain ⟨M,cap,rfl,hl,hm,a0,_,Z⟩:=g
 by_cases hne:c=[]
 ·subst hne;have d:=run_append_nothing (P:=P) w t t o.type e i I O (some r) 0 0 (Nat.le_refl _) _ (qYb (size:=i.size) I M cap w);have R:a.eval x=.slice M 0 cap:=T;unfold Oper.wp
  simp [execOp,F,resolve,invoke,builtin,l,R,d,Result.andThen]
  exact hK _ _ ⟨_,0,rfl,by simp,by simp [maxLen],fun h=>by simp at h,by simp,fun h=>absurd rfl h⟩ (.inl ⟨rfl,_,rfl⟩) (qQj _ _)
 ·obtain ⟨b,off,rfl,a1,n⟩:=Z hne
  obtain ⟨A,f,d,N,Y⟩:=run_append_arg_grows (P:=P) w t o.type e i z 1 bytes I O h3 h4 X V (by decide) r 0 0 [] (by simp) (by simp) ⟨b,off,none⟩ c.length cap (c.map (Value.int k)) (by simp) (fun j u U=>by
   rw [List.getElem?_map] at U;obtain ⟨y,J,rfl⟩:=Option.map_eq_some_iff.1 U;have L:j<c.length:=(List.getElem?_eq_some_iff.1 J).1;rw [qIq,n j L]
   simp [List.getD,J]) (by have:0<c.length:=List.length_pos_iff.2 hne;omega) (by omega) (by rw [Nat.zero_add];exact b2)
  unfold Oper.wp
  simp [execOp,F,resolve,invoke,builtin,l,T,d,Result.andThen]
  refine hK _ _ (Sees.own (by simpa using N) S) (.inr (qPe (by simpa using N) hB)) Y
theorem yFl {P:Program}{n:Array Oper}{o:Oper}{a:Act}{w:World}{K:Act->World->Prop}{Q:Exit->Act->World->Prop}{E:Prop}(T:o.guard=none)(s x:Operand)(t:TypeId)(r:o.op=Op.call { callee:=Callee.builtin Builtin.append,args:=#[s,x],argTypes:=#[t,t] })(e:TypeId)(i:TypeInfo)(z:Value)(A:P.underlying t=some (.slice e))(G:P.info? e=some i)(X:i.zero=some z)(V:i.size=5)(N:i.bytes=40)(M:z.cells.size=5)(g:∃ k,a.eval s=.slice (some k) 0 0)(u:Value)(c:List In)(L:a.eval x=u)(y:SeesI w u c)(B:Nat)(S:B<=w.heap.size)(b1:c.length<=maxLen)(b2:c.length*40<=140737488355328)(hK:∀ l f,SeesI f l c->OwnOr f B e 5 l c.length (qGb c)->w.grownBy f none->K (a.put o.dst l) f) :
  if Region.wanted o (yielded n a.tmps)=true then Oper.wp P o a w K Q else E:=by
 have U:Region.wanted o (yielded n a.tmps)=true:=by simp [Region.wanted,T]
 rw [if_pos U];obtain ⟨k,g⟩:=g;obtain ⟨D,cap,rfl,hl,hm,Y,R⟩:=y
 by_cases hne:c=[]
 ·subst hne;have d:=run_append_nothing (P:=P) w t t o.type e i A G (some k) 0 0 (Nat.le_refl _) _ (qYb (size:=i.size) A D cap w);have I:a.eval x=.slice D 0 cap:=L;unfold Oper.wp
  simp [execOp,r,resolve,invoke,builtin,g,I,d,Result.andThen]
  exact hK _ _ ⟨_,0,rfl,by simp,by simp [maxLen],fun h=>by simp at h,fun h=>absurd rfl h⟩ (.inl ⟨rfl,_,rfl⟩) (qQj _ _)
 ·obtain ⟨b,off,rfl,Z,J⟩:=R hne;obtain ⟨l,f,d,F,O⟩:=run_append_arg_grows (P:=P) w t o.type e i z 5 40 A G X V N M (by decide) k 0 0 [] (by simp) (by simp) ⟨b,off,none⟩ c.length cap (qGb c) (qLr c) (qWd J) (by have:0<c.length:=List.length_pos_iff.2 hne;omega) (by omega) (by rw [Nat.zero_add];exact b2);unfold Oper.wp
  simp [execOp,r,resolve,invoke,builtin,g,L,d,Result.andThen]
  exact hK _ _ (qSe (xs:=c) (by simpa using F)) (.inr (qPe (by simpa using F) S)) O

theorem qTl (vm f:Value)(ms:List Int)(is:List In)(w:World)(h:SeesM w vm f ms is)(z:ms.length*8<=140737488351232/\is.length*40<=140737488355328) :
  Cl 6 #[yTr vm f] w fun e c=>∃ um uc,e=.returned (yTr um uc)/\SeesM c um uc ms is/\OwnOr c w.heap.size 3 1 um ms.length (ms.map (Value.int .i64))/\OwnOr c w.heap.size 43 5 uc is.length (qGb is)/\Bw w c:=by
 obtain ⟨i0,hi,af,ah,aa⟩:=info_parts yDj;obtain ⟨j0,hj,Y,ae,a6⟩:=info_parts qXl;obtain ⟨am,U,a4⟩:=h.maps.shape;obtain ⟨S,T,a5⟩:=h.code.shape;obtain ⟨a,G⟩:∃ a,Hid (a=(w.alloc (.cells #[vm,f] 25)).alloc (.cells #[.slice none 0 0,.slice none 0 0] 25)):=⟨_,qVv rfl⟩
 have B:Hid (Bw w a):=by rw [G.out];exact (yFh w _).alloc (by simp) _
 have HC:Cpr a w.heap.size (w.heap.size+1) vm f a:=by
  refine ⟨?_,⟨.slice none 0 0,.slice none 0 0,?_⟩,qQj _ _⟩
  ·rw [G.out];exact (MdC.new w vm f).kept (qJd _ _ none) (by simp)
  ·rw [G.out];have:=MdC.new (w.alloc (.cells #[vm,f] 25)) (.slice none 0 0) (.slice none 0 0)
   rwa [World.size_alloc] at this
 have HM:=qVv (h.below B.out);have HZ:=qVv z
 have y:Hid (a.heap.size=w.heap.size+2):=by rw [G.out];show _=_;simp
 have a0:Hid (ms.length<=maxLen):=by show _<=_;unfold maxLen;omega
 have V:Hid (ms.length*8<=140737488355328):=by show _<=_;omega
 have a9:Hid (is.length<=maxLen):=by show _<=_;unfold maxLen;omega
 have a7:Hid (is.length*40<=140737488355328):=z.2
 have a8:Hid (∀ c,Cpr a w.heap.size (w.heap.size+1) vm f c->Sees .i64 c vm ms):=fun c E=>by
  by_cases s:ms=[]
  ·subst s;exact HM.out.maps.kept E.g (.inl rfl)
  ·refine HM.out.maps.kept E.g (.inr fun e=>?_);obtain ⟨a',c',P,_,_,_,_,R⟩:=h.maps;obtain ⟨b,off,rfl,I,_⟩:=R s;rw [P] at e
   simp [Value.ownBlock] at e
   omega
 have ai:Hid (∀ c,Cpr a w.heap.size (w.heap.size+1) vm f c->SeesI c f is):=fun c E=>by
  obtain ⟨a',c',P,b1,b2,b3,R⟩:=h.code;refine ⟨a',c',P,b1,b2,b3,fun s=>?_⟩;obtain ⟨b,off,rfl,I,ab⟩:=R s;have ag:=B.out.size;refine ⟨b,off,rfl,Nat.lt_of_lt_of_le I (Nat.le_trans ag E.g.size),fun k J=>?_⟩;have Q:=(ab k J).below B.out I
  have d:∀ j,c.cell? ⟨b,j,none⟩=a.cell? ⟨b,j,none⟩:=fun j=>qWa E.g (by omega) j (by simp;omega)
  unfold At;rw [d,d,d,d,d];exact Q
 have Z:Hid (∀ i∈is,i.wf):=h.wf;subst a4 a5;clear h z;obtain ⟨c0,c1⟩:=HC.md.cells;go_enter Tryz.func6,Tryz.ntmps6
 go_wp2_with fail
 rw [<- G.out]
 go_region_held_law (fun c=>(c.cell? ⟨w.heap.size,0,none⟩=some (.slice am ms.length U)/\c.cell? ⟨w.heap.size,1,none⟩=some (.slice S is.length T))/\Cpr a w.heap.size (w.heap.size+1) (.slice am ms.length U) (.slice S is.length T) c)
  ((refine Cpr.all ?_;repeat (first|assumption|refine Cpr.drew ?_|refine Cpr.alloc ?_ _|refine Cpr.store ?_ (by omega) _ _)))
  (first
   | ((refine yGy (by rfl) (.tmp 3) (.tmp 5) 22 (by rfl) 3 i0 (I4 0) 8 Tryz.underlying22 hi af ah aa rfl .i64 (by exact ⟨_,rfl⟩) (.slice am ms.length U) ms (by rfl) (a8.out _ (And.right ‹_/\Cpr a _ _ _ _ _›)) a.heap.size (And.right ‹_/\Cpr a _ _ _ _ _›).g.size a0.out V.out ?_;intro v1 w1 N K a3;have aj:=Cpr.grown (And.right ‹_/\Cpr a _ _ _ _ _›) a3;obtain ⟨o,r,X⟩:=N.shape;subst X))
   | ((refine yFl (by rfl) (.tmp 7) (.tmp 9) 23 (by rfl) 43 j0 (qAl 0 0 0 0 0) Tryz.underlying23 hj Y ae a6 rfl (by exact ⟨_,rfl⟩) (.slice S is.length T) is (by rfl) (ai.out _ (And.right ‹_/\Cpr a _ _ _ _ _›)) a.heap.size (And.right ‹_/\Cpr a _ _ _ _ _›).g.size a9.out a7.out ?_;intro v2 A L O D;have M:=Cpr.grown (And.right ‹_/\Cpr a _ _ _ _ _›) D;obtain ⟨l,n,ad⟩:=L.shape;subst ad;obtain ⟨xm,xc,u⟩:=M.two;obtain ⟨y0,y1⟩:=u.cells;have f0:=u.frozen 0;have f1:=u.frozen 1)))
 all_goals
  have gs:A.grownBy ((A.setCell ⟨w.heap.size+1,0,none⟩ (.slice o ms.length r)).setCell ⟨w.heap.size+1,1,none⟩ (.slice l is.length n)) (some (w.heap.size+1)):=(qMy A ⟨w.heap.size+1,0,none⟩ (.slice o ms.length r)).trans (qMy _ ⟨w.heap.size+1,1,none⟩ (.slice l is.length n))
  have g1:w1.grownBy ((A.setCell ⟨w.heap.size+1,0,none⟩ (.slice o ms.length r)).setCell ⟨w.heap.size+1,1,none⟩ (.slice l is.length n)) (some (w.heap.size+1)):=by first|exact (D.but _).trans gs|exact ((qJd w1 _ _).trans (D.but _)).trans gs
  have r1:Sees .i64 ((A.setCell ⟨w.heap.size+1,0,none⟩ (.slice o ms.length r)).setCell ⟨w.heap.size+1,1,none⟩ (.slice l is.length n)) (.slice o ms.length r) ms:=N.kept g1 (by
   rcases K.blocks with h|h
   ·exact .inl (List.eq_nil_of_length_eq_zero h)
   ·refine .inr fun e=>?_
    have Q:=h _ e;have h2:=y.out
    omega)
  have r2:SeesI ((A.setCell ⟨w.heap.size+1,0,none⟩ (.slice o ms.length r)).setCell ⟨w.heap.size+1,1,none⟩ (.slice l is.length n)) (.slice l is.length n) is:=L.kept gs (by
   rcases O.blocks with h|h
   ·exact .inl (List.eq_nil_of_length_eq_zero h)
   ·refine .inr fun e=>?_
    have Q:=h _ e;have h2:=y.out
    omega)
  have r3:=u.set (.slice o ms.length r) (.slice l is.length n);have r4:=B.out.grown (M.g.trans gs) B.out.size (fun k J=>by injection J with J;omega)
  go_wp2_with fail
  refine bodyPost_ret (results_cell_row rfl _ _ (w.heap.size+1) _ _ (0,0) _ rfl r3 Tryz.underlying25 rfl (by kernel_rfl)) rfl ?_;have F:w.heap.size<=a.heap.size:=B.out.size;have o1:=K.kept g1 (by have:=y.out;omega);have o2:=O.kept gs (by have:=y.out;omega);exact ⟨_,_,rfl,⟨r1,r2,Z.out⟩,o1.low F,o2.low F,r4⟩
theorem qZk {H:Type}{enc:TypeId×Value->H}{W:World}{v:Value}{d:DataW H}{p:List MemPlace}(Q:∃ a f cap,v=.slice a f cap)(h:DataW.Trod enc Tryz.prog W 0 (fun _=>true) true 23 v d p) :
  ∃ xs,(SeesI W v xs/\∀ i∈xs,i.wf)/\6*xs.length<Rows.uptoBulk d/\((d.weights Tryz.prog 23).all (·<=reachBytes)=true->xs.length*40<=140737488355328):=by
 obtain ⟨a,f,cap,rfl⟩:=Q
 have c5:Tryz.prog.cellsOf 43=5:=by kernel_rfl
 obtain ⟨V,X⟩:=h
 rcases DataW.trod_slice Tryz.underlying23 X with ⟨s,w⟩|⟨x,l,c,r,S,n,rfl,s,w,_,hl,hm,U,O,a0,_⟩
 ·simp [Value.cells] at s w
  obtain ⟨rfl,rfl,rfl⟩:=s;obtain ⟨rfl,rfl⟩:=w;exact ⟨[],⟨⟨none,0,rfl,by simp,by simp [maxLen],fun _=>rfl,fun h=>absurd rfl h⟩,by simp⟩,by simp [Rows.uptoBulk],fun _=>by simp⟩
 ·simp [Value.cells] at s w
  obtain ⟨rfl,rfl,rfl⟩:=s;obtain ⟨rfl,rfl⟩:=w
  have K:∀ i:Nat,∃ I:In,i<f->I.wf/\(∀ j,j<5->W.cell? ((x.add (i*5)).add j)=I.cells[j]?)/\(r.map (·.1))[i]? = some I.data:=by
   intro i
   by_cases hi:i<f
   ·have D:=O i hi
    have F:i<r.length:=by omega
    rw [c5,List.getElem?_eq_getElem F,Option.bind_eq_some_iff] at D;obtain ⟨cs,M,N⟩:=D;obtain ⟨I,rfl,Y,w⟩:=yHf N;refine ⟨I,fun _=>⟨Y,(World.cells?_some M).2.2,?_⟩⟩;rw [List.getElem?_map,List.getElem?_eq_getElem F,w]
    rfl
   ·exact ⟨In.nil,fun h=>absurd h hi⟩
  obtain ⟨g,B⟩:=Classical.axiomOfChoice K
  have y:((List.range f).map g).length=f:=by simp
  have R:∀ k,k<f->((List.range f).map g).getD k In.nil=g k:=fun k o=>by simp [List.getD,o]
  refine ⟨(List.range f).map g,⟨⟨some x,cap,by rw [y],by omega,hm,fun h=>by simp at h,fun L=>?_⟩,?_⟩,?_,?_⟩
  ·have G:0<f:=by
    rcases Nat.eq_zero_or_pos f with h0|h0
    ·subst h0;exact absurd rfl L
    ·exact h0
   obtain ⟨b,off,J⟩:=x;have E:=(B 0 G).2.1 0 (by omega)
   have A:J=none:=by
    have:=World.cell?_spot (show W.cell? _=some _ from E)
    simpa [Addr.add] using this
   subst A;refine ⟨b,off,rfl,?_,fun k o=>?_⟩
   ·have:=World.block_lt_of_cell? W _ (show W.cell? _=some _ from E)
    simpa [Addr.add] using this
   ·rw [y] at o;rw [R k o];have z:=(B k o).2.1;simp only [Addr.add_mid] at z;exact ⟨z 0 (by omega),z 1 (by omega),z 2 (by omega),z 3 (by omega),z 4 (by omega)⟩
  ·intro i hi;simp only [List.mem_map,List.mem_range] at hi;obtain ⟨k,o,rfl⟩:=hi;exact (B k o).1
  ·have Z:r.map (·.1)=(List.range f).map fun k=>(g k).data:=by
    apply List.ext_getElem?
    intro k
    by_cases o:k<f
    ·rw [(B k o).2.2];simp [o]
    ·rw [List.getElem?_eq_none (by simp;omega),List.getElem?_eq_none (by simp;omega)]
   rw [Z,y]
   have T:∀ l:List Nat,Rows.uptoBulkAll (H:=H) (l.map fun k=>(g k).data)=6*l.length:=by
    intro l
    induction l with
    | nil=>rfl
    | cons k l ih=>simp only [List.map_cons,Rows.uptoBulkAll,ih,Rows.uptoBulk,List.length_cons];omega
   simp only [Rows.uptoBulk,T,List.length_range]
   omega
  ·intro u
   have P:Tryz.prog.bytesOf 43=40:=by kernel_rfl
   rw [DataW.weights,Tryz.underlying23] at u;simp only [List.all_cons,Bool.and_eq_true,decide_eq_true_eq,List.length_map,P] at u;have D:=u.1;unfold reachBytes at D;rw [y]
   omega
end Go.Proofs.YtmdhljoicnommaaGreat
