/-
  JCop
  JCopO
  JOpen
-/
import Derived.Test.YtmdhljoicnommaaGreatMS33
import Derived.Test.YtmdhljoicnommaaGreatMS30
import Derived.Deep.DrawnRows
import Derived.Deep.Upon
import Derived.ArgAppend
import Derived.Maps.RangeWalk
namespace Go.Proofs.YtmdhljoicnommaaGreat
set_option maxHeartbeats 12800000
open Go.RowKit
set_option linter.unusedVariables false
set_option maxRecDepth 100000
open Go.ChangeShapes Go.WideShapes Go.ChangeAt Go.RowKit
attribute [local go_sem ↓] Go.wp_at_zero Go.wp_at_succ

theorem Sees.kept {k:IntKind}{w n:World}{v:Value}{xs:List Int}{r:Option Nat}(h:Sees k w v xs)(g:w.grownBy n r)(c:xs=[]∨v.ownBlock≠r):Sees k n v xs:=by
 obtain ⟨a,cap,rfl,s,hm,l,z,y⟩:=h;refine ⟨a,cap,rfl,s,hm,l,z,fun f=>?_⟩;obtain ⟨b,off,rfl,d,u⟩:=y f;refine ⟨b,off,rfl,Nat.lt_of_lt_of_le d g.size,fun i hi=>?_⟩
 have o:some b≠r:=by
  rcases c with c|c
  ·exact absurd c f
  ·exact c
 have:=u i hi;unfold World.cell? at this ⊢;rw [g.block b d o];exact this
theorem grown_cell {w c:World}{row:Option Nat}{b:Nat}(f:w.grownBy c row)(a:b<w.heap.size)(j:Nat)(d:¬ row=some b):c.cell? ⟨b,j,none⟩=w.cell? ⟨b,j,none⟩:=by
 unfold World.cell?;rw [f.block b a (fun e=>d e.symm)]
theorem grownA_set (w:World)(a:Addr)(u:Value):w.grownBy (w.setCell a u) (some a.block) :=
 ⟨rfl,rfl,rfl,by simp,fun k _ b=>heap_setCell_other w a k u (fun e=>b (by rw [e]))⟩
theorem grownA_alloc (w:World)(o:Obj)(r:Option Nat):w.grownBy (w.alloc o) r:=qAu ((Below.refl _ _).alloc (Nat.le_refl _) o) r
theorem infoInst9:(Tryz.prog.info? 43).map (fun i=>(i.zero,i.size,i.bytes))=some (some (instV 0 0 0 0 0),5,40):=by kernel_rfl
theorem infoInt9:(Tryz.prog.info? 3).map (fun i=>(i.zero,i.size,i.bytes))=some (some (I4 0),1,8):=by kernel_rfl
def MdC (w:World) (n:Nat) (vm vc:Value):Prop:=w.heap[n]? = some (.cells #[vm,vc] 25 (0,0))
theorem MdC.cells {w:World}{n:Nat}{a b:Value}(h:MdC w n a b):w.cell? ⟨n,0,none⟩=some a/\w.cell? ⟨n,1,none⟩=some b:=⟨cell_of_row w n 0 _ _ _ h,cell_of_row w n 1 _ _ _ h⟩
theorem MdC.frozen {w:World}{n:Nat}{a b:Value}(h:MdC w n a b)(j:Nat):w.frozen? ⟨n,j,none⟩=false:=frozen_of_row w n j _ _ h
theorem MdC.lt {w:World}{n:Nat}{a b:Value}(h:MdC w n a b):n<w.heap.size:=(Array.getElem?_eq_some_iff.1 h).1
theorem MdC.kept {w b:World}{n:Nat}{a c:Value}{row:Option Nat}(h:MdC w n a c)(d:w.grownBy b row)(f:row≠some n):MdC b n a c:=by
 unfold MdC;rw [d.block n h.lt (fun e=>f e.symm)];exact h
theorem MdC.new (w:World)(a b:Value):MdC (w.alloc (.cells #[a,b] 25)) w.heap.size a b:=heap_alloc_new w _
theorem MdC.set {w:World}{n:Nat}{c d:Value}(h:MdC w n c d)(b a:Value):MdC ((w.setCell ⟨n,0,none⟩ b).setCell ⟨n,1,none⟩ a) n b a:=heap_setCell_same _ n 1 _ _ _ (heap_setCell_same w n 0 _ _ _ h)
abbrev modV (vm vc:Value):Value:=.agg #[vm,vc]

structure SeesM (w:World) (vm vc:Value) (ms:List Int) (is:List In):Prop where
 maps:Sees .i64 w vm ms
 code:SeesI w vc is
 wf:∀ i∈is,i.wf
theorem SeesM.below {w c:World}{a d:Value}{ms:List Int}{is:List In}(h:SeesM w a d ms is)(b:Bw w c):SeesM c a d ms is:=⟨h.maps.below b (Nat.le_refl _),h.code.below b,h.wf⟩
theorem below_alloc (w:World)(o:Obj):Bw w (w.alloc o):=(Below.refl _ _).alloc (Nat.le_refl _) o
theorem src_empty {P:Program}{size:Nat}{t e:TypeId}(h:P.underlying t=some (.slice e))(a:Option Addr)(cap:Nat)(w:World):Src P size t (.slice a 0 cap) 0 [] w:=by
 refine ⟨.inl ⟨e,h⟩,fun b=>by simp [Builtin.lenOf],?_,?_,by simp,by simp⟩
 ·cases a with
  | none=>simp [Builtin.firstCells]
  | some ad=>simp [Builtin.firstCells];exact run_loadCells_list (P:=P) w ad [] (by simp)
 ·cases a with
  | none=>simp [Builtin.firstCells]
  | some ad=>simp [Builtin.firstCells];exact run_loadCells_list (P:=P) w.drew ad [] (by simp)
theorem SeesI.kept {w i:World}{v:Value}{xs:List In}{r:Option Nat}(h:SeesI w v xs)(l:w.grownBy i r)(d:xs=[]∨v.ownBlock≠r):SeesI i v xs:=by
 obtain ⟨a,cap,rfl,u,hm,o,y⟩:=h;refine ⟨a,cap,rfl,u,hm,o,fun g=>?_⟩;obtain ⟨b,off,rfl,f,n⟩:=y g;refine ⟨b,off,rfl,Nat.lt_of_lt_of_le f l.size,fun k z=>?_⟩
 have s:¬ r=some b:=by
  rcases d with d|d
  ·exact absurd d g
  ·exact fun e=>d e.symm
 have c:∀ j,i.cell? ⟨b,j,none⟩=w.cell? ⟨b,j,none⟩:=fun j=>grown_cell l f j s
 unfold At;rw [c,c,c,c,c];exact n k z
structure Cpr (W0:World) (n1 n2:Nat) (vm vc:Value) (w':World):Prop where
 md:MdC w' n1 vm vc
 two:∃ um uc,MdC w' n2 um uc
 g:W0.grownBy w' (some n2)
theorem Cpr.grown {i:World}{c b:Nat}{d l:Value}{k f:World}(h:Cpr i c b d l k)(a:k.grownBy f none):Cpr i c b d l f :=
 ⟨h.md.kept a (by simp),by obtain ⟨o,n,r⟩:=h.two;exact ⟨o,n,r.kept a (by simp)⟩,h.g.trans (a.but _)⟩
theorem Cpr.alloc {d:World}{b a:Nat}{c g:Value}{f:World}(h:Cpr d b a c g f)(o:Obj):Cpr d b a c g (f.alloc o):=h.grown (grownA_alloc _ _ none)
theorem Cpr.drew {d:World}{b a:Nat}{c g:Value}{f:World}(h:Cpr d b a c g f):Cpr d b a c g f.drew:=h.grown ⟨rfl,rfl,rfl,Nat.le_refl _,fun _ _ _=>rfl⟩
theorem Cpr.store {l:World}{b a:Nat}{k n:Value}{f:World}(h:Cpr l b a k n f)(o:b≠a)(d c:Value):Cpr l b a k n ((f.setCell ⟨a,0,none⟩ d).setCell ⟨a,1,none⟩ c):=by
 have i:=(grownA_set f ⟨a,0,none⟩ d).trans (grownA_set _ ⟨a,1,none⟩ c);obtain ⟨s,u,r⟩:=h.two;exact ⟨h.md.kept i (by simp;exact fun e=>o e.symm),⟨_,_,r.set d c⟩,h.g.trans i⟩
theorem Cpr.all {g:World}{a f:Nat}{c d:Value}{b:World}(h:Cpr g a f c d b):(b.cell? ⟨a,0,none⟩=some c/\b.cell? ⟨a,1,none⟩=some d)/\Cpr g a f c d b:=⟨h.md.cells,h⟩

attribute [local go_sem ↓] Go.wp_at_zero Go.wp_at_succ

def OwnOr (w:World) (B:Nat) (e:TypeId) (z:Nat) (v:Value) (n:Nat) (xs:List Value):Prop:=(n=0/\∃ ad,v=.slice (some ad) 0 0)∨w.ownsRow B e z v n xs
theorem own_low {w:World}{B c:Nat}{e:TypeId}{z:Nat}{v:Value}{n:Nat}{xs:List Value}(h:w.ownsRow B e z v n xs)(i:c<=B):w.ownsRow c e z v n xs:=by
 rcases h with ⟨b,l|⟨g,cap,a,k,d,f,r⟩⟩
 ·exact ⟨b,.inl l⟩
 ·exact ⟨b,.inr ⟨g,cap,a,k,Nat.le_trans i d,f,r⟩⟩
theorem OwnOr.blocks {w:World}{B:Nat}{e:TypeId}{z:Nat}{v:Value}{n:Nat}{xs:List Value}(h:OwnOr w B e z v n xs):n=0∨∀ j,v.ownBlock=some j->B<=j:=by
 rcases h with h|h
 ·exact .inl h.1
 ·exact .inr fun j a=>(h.lt j a).1
theorem OwnOr.low {w:World}{B a:Nat}{e:TypeId}{z:Nat}{v:Value}{n:Nat}{xs:List Value}(h:OwnOr w B e z v n xs)(b:a<=B):OwnOr w a e z v n xs:=h.imp id fun h=>own_low h b
theorem OwnOr.kept {w a:World}{B:Nat}{e:TypeId}{z:Nat}{v:Value}{n:Nat}{xs:List Value}{b:Nat}(h:OwnOr w B e z v n xs)(c:w.grownBy a (some b))(d:b<B):OwnOr a B e z v n xs:=by
 rcases h with h|h
 ·exact .inl h
 ·refine .inr (h.kept c ?_)
  cases hv:v.ownBlock with
  | none=>exact .inl rfl
  | some k =>
   refine .inr fun e=>?_
   have:=(h.lt k hv).1;injection e with e
   omega
theorem step_copyO {P:Program}{F:Array Oper}{o:Oper}{a:Act}{w:World}{K:Act->World->Prop}{Q:Exit->Act->World->Prop}{E:Prop}(hg:o.guard=none)(s x:Operand)(t:TypeId)(G:o.op=Op.call { callee:=Callee.builtin Builtin.append,args:=#[s,x],argTypes:=#[t,t] })(e:TypeId)(i:TypeInfo)(z:Value)(bytes:Nat)(I:P.underlying t=some (.slice e))(O:P.info? e=some i)(h3:i.zero=some z)(h4:i.size=1)(h5:i.bytes=bytes)(Z:z.cells.size=1)(k:IntKind)(A:∃ n,a.eval s=.slice (some n) 0 0)(D:Value)(c:List Int)(S:a.eval x=D)(f:Sees k w D c)(B:Nat)(X:B<=w.heap.size)(b1:c.length<=maxLen)(V:c.length*bytes<=140737488355328)(hK:∀ l g,Sees k g l c->OwnOr g B e 1 l c.length (c.map (Value.int k))->w.grownBy g none->K (a.put o.dst l) g) :
  if Region.wanted o (yielded F a.tmps)=true then Oper.wp P o a w K Q else E:=by
 have hw:Region.wanted o (yielded F a.tmps)=true:=by simp [Region.wanted,hg]
 rw [if_pos hw];obtain ⟨n,A⟩:=A;have M:=f.wf;obtain ⟨N,cap,rfl,hl,hm,a1,_,hc⟩:=f
 by_cases hne:c=[]
 ·subst hne;have d:=run_append_nothing (P:=P) w t t o.type e i I O (some n) 0 0 (Nat.le_refl _) _ (src_empty (size:=i.size) I N cap w);have U:a.eval x=.slice N 0 cap:=S;unfold Oper.wp
  simp [execOp,G,resolve,invoke,builtin,A,U,d,Result.andThen]
  exact hK _ _ ⟨_,0,rfl,by simp,by simp [maxLen],fun h=>by simp at h,by simp,fun h=>absurd rfl h⟩ (.inl ⟨rfl,_,rfl⟩) (grown_refl _ _)
 ·obtain ⟨b,off,rfl,a0,r⟩:=hc hne
  obtain ⟨l,g,d,R,Y⟩:=run_append_arg_grows (P:=P) w t o.type e i z 1 bytes I O h3 h4 h5 Z (by decide) n 0 0 [] (by simp) (by simp) ⟨b,off,none⟩ c.length cap (c.map (Value.int k)) (by simp) (fun j u T=>by
   rw [List.getElem?_map] at T;obtain ⟨y,J,rfl⟩:=Option.map_eq_some_iff.1 T;have L:j<c.length:=(List.getElem?_eq_some_iff.1 J).1;rw [add_none,r j L]
   simp [List.getD,J]) (by have:0<c.length:=List.length_pos_iff.2 hne;omega) (by omega) (by rw [Nat.zero_add];exact V)
  unfold Oper.wp
  simp [execOp,G,resolve,invoke,builtin,A,S,d,Result.andThen]
  refine hK _ _ (Sees.own (by simpa using R) M) (.inr (own_low (by simpa using R) X)) Y
theorem step_copyIO {P:Program}{r:Array Oper}{o:Oper}{a:Act}{w:World}{K:Act->World->Prop}{Q:Exit->Act->World->Prop}{E:Prop}(S:o.guard=none)(s x:Operand)(t:TypeId)(u:o.op=Op.call { callee:=Callee.builtin Builtin.append,args:=#[s,x],argTypes:=#[t,t] })(e:TypeId)(i:TypeInfo)(z:Value)(A:P.underlying t=some (.slice e))(G:P.info? e=some i)(Y:i.zero=some z)(U:i.size=5)(V:i.bytes=40)(R:z.cells.size=5)(l:∃ k,a.eval s=.slice (some k) 0 0)(n:Value)(c:List In)(J:a.eval x=n)(y:SeesI w n c)(B:Nat)(N:B<=w.heap.size)(b1:c.length<=maxLen)(M:c.length*40<=140737488355328)(hK:∀ g f,SeesI f g c->OwnOr f B e 5 g c.length (flat c)->w.grownBy f none->K (a.put o.dst g) f) :
  if Region.wanted o (yielded r a.tmps)=true then Oper.wp P o a w K Q else E:=by
 have X:Region.wanted o (yielded r a.tmps)=true:=by simp [Region.wanted,S]
 rw [if_pos X];obtain ⟨k,l⟩:=l;obtain ⟨F,cap,rfl,hl,hm,a0,T⟩:=y
 by_cases hne:c=[]
 ·subst hne;have d:=run_append_nothing (P:=P) w t t o.type e i A G (some k) 0 0 (Nat.le_refl _) _ (src_empty (size:=i.size) A F cap w);have L:a.eval x=.slice F 0 cap:=J;unfold Oper.wp
  simp [execOp,u,resolve,invoke,builtin,l,L,d,Result.andThen]
  exact hK _ _ ⟨_,0,rfl,by simp,by simp [maxLen],fun h=>by simp at h,fun h=>absurd rfl h⟩ (.inl ⟨rfl,_,rfl⟩) (grown_refl _ _)
 ·obtain ⟨b,off,rfl,Z,D⟩:=T hne;obtain ⟨g,f,d,I,O⟩:=run_append_arg_grows (P:=P) w t o.type e i z 5 40 A G Y U V R (by decide) k 0 0 [] (by simp) (by simp) ⟨b,off,none⟩ c.length cap (flat c) (flat_len c) (flat_cells D) (by have:0<c.length:=List.length_pos_iff.2 hne;omega) (by omega) (by rw [Nat.zero_add];exact M);unfold Oper.wp
  simp [execOp,u,resolve,invoke,builtin,l,J,d,Result.andThen]
  exact hK _ _ (own_seesI (xs:=c) (by simpa using I)) (.inr (own_low (by simpa using I) N)) O

theorem copied9_own (l f:Value)(ms:List Int)(is:List In)(w:World)(h:SeesM w l f ms is)(z:ms.length*8<=140737488351232/\is.length*40<=140737488355328) :
  Cl 6 #[modV l f] w fun e c=>∃ um uc,e=.returned (modV um uc)/\SeesM c um uc ms is/\OwnOr c w.heap.size 3 1 um ms.length (ms.map (Value.int .i64))/\OwnOr c w.heap.size 43 5 uc is.length (flat is)/\Bw w c:=by
 obtain ⟨i0,hi,X,a9,ab⟩:=info_parts infoInt9;obtain ⟨j0,hj,ad,a8,a6⟩:=info_parts infoInst9;obtain ⟨am,R,ae⟩:=h.maps.shape;obtain ⟨S,Q,a3⟩:=h.code.shape;obtain ⟨a,I⟩:∃ a,Hid (a=(w.alloc (.cells #[l,f] 25)).alloc (.cells #[.slice none 0 0,.slice none 0 0] 25)):=⟨_,keepH rfl⟩
 have B:Hid (Bw w a):=by rw [I.out];exact (below_alloc w _).alloc (by simp) _
 have HC:Cpr a w.heap.size (w.heap.size+1) l f a:=by
  refine ⟨?_,⟨.slice none 0 0,.slice none 0 0,?_⟩,grown_refl _ _⟩
  ·rw [I.out];exact (MdC.new w l f).kept (grownA_alloc _ _ none) (by simp)
  ·rw [I.out];have:=MdC.new (w.alloc (.cells #[l,f] 25)) (.slice none 0 0) (.slice none 0 0)
   rwa [World.size_alloc] at this
 have HM:=keepH (h.below B.out);have HZ:=keepH z
 have y:Hid (a.heap.size=w.heap.size+2):=by rw [I.out];show _=_;simp
 have a4:Hid (ms.length<=maxLen):=by show _<=_;unfold maxLen;omega
 have ag:Hid (ms.length*8<=140737488355328):=by show _<=_;omega
 have a5:Hid (is.length<=maxLen):=by show _<=_;unfold maxLen;omega
 have ai:Hid (is.length*40<=140737488355328):=z.2
 have Y:Hid (∀ c,Cpr a w.heap.size (w.heap.size+1) l f c->Sees .i64 c l ms):=fun c J=>by
  by_cases A:ms=[]
  ·subst A;exact HM.out.maps.kept J.g (.inl rfl)
  ·refine HM.out.maps.kept J.g (.inr fun e=>?_);obtain ⟨a',c',U,_,_,_,_,T⟩:=h.maps;obtain ⟨b,off,rfl,E,_⟩:=T A;rw [U] at e
   simp [Value.ownBlock] at e
   omega
 have a7:Hid (∀ c,Cpr a w.heap.size (w.heap.size+1) l f c->SeesI c f is):=fun c J=>by
  obtain ⟨a',c',U,b1,b2,b3,T⟩:=h.code;refine ⟨a',c',U,b1,b2,b3,fun A=>?_⟩;obtain ⟨b,off,rfl,E,aj⟩:=T A;have a0:=B.out.size;refine ⟨b,off,rfl,Nat.lt_of_lt_of_le E (Nat.le_trans a0 J.g.size),fun k K=>?_⟩;have V:=(aj k K).below B.out E
  have d:∀ j,c.cell? ⟨b,j,none⟩=a.cell? ⟨b,j,none⟩:=fun j=>grown_cell J.g (by omega) j (by simp;omega)
  unfold At;rw [d,d,d,d,d];exact V
 have Z:Hid (∀ i∈is,i.wf):=h.wf;subst ae a3;clear h z;obtain ⟨c0,c1⟩:=HC.md.cells;go_enter Tryz.func6,Tryz.ntmps6
 go_wp2_with fail
 rw [<- I.out]
 go_region_held_law (fun c=>(c.cell? ⟨w.heap.size,0,none⟩=some (.slice am ms.length R)/\c.cell? ⟨w.heap.size,1,none⟩=some (.slice S is.length Q))/\Cpr a w.heap.size (w.heap.size+1) (.slice am ms.length R) (.slice S is.length Q) c)
  ((refine Cpr.all ?_;repeat (first|assumption|refine Cpr.drew ?_|refine Cpr.alloc ?_ _|refine Cpr.store ?_ (by omega) _ _)))
  (first
   | ((refine step_copyO (by rfl) (.tmp 3) (.tmp 5) 22 (by rfl) 3 i0 (I4 0) 8 Tryz.underlying22 hi X a9 ab rfl .i64 (by exact ⟨_,rfl⟩) (.slice am ms.length R) ms (by rfl) (Y.out _ (And.right ‹_/\Cpr a _ _ _ _ _›)) a.heap.size (And.right ‹_/\Cpr a _ _ _ _ _›).g.size a4.out ag.out ?_;intro v1 w1 M L af;have ak:=Cpr.grown (And.right ‹_/\Cpr a _ _ _ _ _›) af;obtain ⟨r,n,ah⟩:=M.shape;subst ah))
   | ((refine step_copyIO (by rfl) (.tmp 7) (.tmp 9) 23 (by rfl) 43 j0 (instV 0 0 0 0 0) Tryz.underlying23 hj ad a8 a6 rfl (by exact ⟨_,rfl⟩) (.slice S is.length Q) is (by rfl) (a7.out _ (And.right ‹_/\Cpr a _ _ _ _ _›)) a.heap.size (And.right ‹_/\Cpr a _ _ _ _ _›).g.size a5.out ai.out ?_;intro v2 D P O F;have N:=Cpr.grown (And.right ‹_/\Cpr a _ _ _ _ _›) F;obtain ⟨o,s,aa⟩:=P.shape;subst aa;obtain ⟨xm,xc,u⟩:=N.two;obtain ⟨y0,y1⟩:=u.cells;have f0:=u.frozen 0;have f1:=u.frozen 1)))
 all_goals
  have gs:D.grownBy ((D.setCell ⟨w.heap.size+1,0,none⟩ (.slice r ms.length n)).setCell ⟨w.heap.size+1,1,none⟩ (.slice o is.length s)) (some (w.heap.size+1)):=(grownA_set D ⟨w.heap.size+1,0,none⟩ (.slice r ms.length n)).trans (grownA_set _ ⟨w.heap.size+1,1,none⟩ (.slice o is.length s))
  have g1:w1.grownBy ((D.setCell ⟨w.heap.size+1,0,none⟩ (.slice r ms.length n)).setCell ⟨w.heap.size+1,1,none⟩ (.slice o is.length s)) (some (w.heap.size+1)):=by first|exact (F.but _).trans gs|exact ((grownA_alloc w1 _ _).trans (F.but _)).trans gs
  have r1:Sees .i64 ((D.setCell ⟨w.heap.size+1,0,none⟩ (.slice r ms.length n)).setCell ⟨w.heap.size+1,1,none⟩ (.slice o is.length s)) (.slice r ms.length n) ms:=M.kept g1 (by
   rcases L.blocks with h|h
   ·exact .inl (List.eq_nil_of_length_eq_zero h)
   ·refine .inr fun e=>?_
    have V:=h _ e;have h2:=y.out
    omega)
  have r2:SeesI ((D.setCell ⟨w.heap.size+1,0,none⟩ (.slice r ms.length n)).setCell ⟨w.heap.size+1,1,none⟩ (.slice o is.length s)) (.slice o is.length s) is:=P.kept gs (by
   rcases O.blocks with h|h
   ·exact .inl (List.eq_nil_of_length_eq_zero h)
   ·refine .inr fun e=>?_
    have V:=h _ e;have h2:=y.out
    omega)
  have r3:=u.set (.slice r ms.length n) (.slice o is.length s);have r4:=B.out.grown (N.g.trans gs) B.out.size (fun k K=>by injection K with K;omega)
  go_wp2_with fail
  refine bodyPost_ret (results_cell_row rfl _ _ (w.heap.size+1) _ _ (0,0) _ rfl r3 Tryz.underlying25 rfl (by kernel_rfl)) rfl ?_;have G:w.heap.size<=a.heap.size:=B.out.size;have o1:=L.kept g1 (by have:=y.out;omega);have o2:=O.kept gs (by have:=y.out;omega);exact ⟨_,_,rfl,⟨r1,r2,Z.out⟩,o1.low G,o2.low G,r4⟩
theorem opens_Inst_sh {H:Type}{enc:TypeId×Value->H}{W:World}{v:Value}{d:DataW H}{p:List MemPlace}(Q:∃ a f cap,v=.slice a f cap)(h:DataW.Trod enc Tryz.prog W 0 (fun _=>true) true 23 v d p) :
  ∃ xs,(SeesI W v xs/\∀ i∈xs,i.wf)/\6*xs.length<Rows.uptoBulk d/\((d.weights Tryz.prog 23).all (·<=reachBytes)=true->xs.length*40<=140737488355328):=by
 obtain ⟨a,f,cap,rfl⟩:=Q
 have Z:Tryz.prog.cellsOf 43=5:=by kernel_rfl
 obtain ⟨S,V⟩:=h
 rcases DataW.trod_slice Tryz.underlying23 V with ⟨s,u⟩|⟨x,l,c,r,a0,n,rfl,s,u,_,hl,hm,U,R,a1,_⟩
 ·simp [Value.cells] at s u
  obtain ⟨rfl,rfl,rfl⟩:=s;obtain ⟨rfl,rfl⟩:=u;exact ⟨[],⟨⟨none,0,rfl,by simp,by simp [maxLen],fun _=>rfl,fun h=>absurd rfl h⟩,by simp⟩,by simp [Rows.uptoBulk],fun _=>by simp⟩
 ·simp [Value.cells] at s u
  obtain ⟨rfl,rfl,rfl⟩:=s;obtain ⟨rfl,rfl⟩:=u
  have P:∀ i:Nat,∃ I:In,i<f->I.wf/\(∀ j,j<5->W.cell? ((x.add (i*5)).add j)=I.cells[j]?)/\(r.map (·.1))[i]? = some I.data:=by
   intro i
   by_cases hi:i<f
   ·have B:=R i hi
    have F:i<r.length:=by omega
    rw [Z,List.getElem?_eq_getElem F,Option.bind_eq_some_iff] at B;obtain ⟨cs,L,N⟩:=B;obtain ⟨I,rfl,Y,u⟩:=inst_cells N;refine ⟨I,fun _=>⟨Y,(World.cells?_some L).2.2,?_⟩⟩;rw [List.getElem?_map,List.getElem?_eq_getElem F,u]
    rfl
   ·exact ⟨In.nil,fun h=>absurd h hi⟩
  obtain ⟨g,A⟩:=Classical.axiomOfChoice P
  have y:((List.range f).map g).length=f:=by simp
  have M:∀ k,k<f->((List.range f).map g).getD k In.nil=g k:=fun k o=>by simp [List.getD,o]
  refine ⟨(List.range f).map g,⟨⟨some x,cap,by rw [y],by omega,hm,fun h=>by simp at h,fun O=>?_⟩,?_⟩,?_,?_⟩
  ·have G:0<f:=by
    rcases Nat.eq_zero_or_pos f with h0|h0
    ·subst h0;exact absurd rfl O
    ·exact h0
   obtain ⟨b,off,J⟩:=x;have E:=(A 0 G).2.1 0 (by omega)
   have D:J=none:=by
    have:=World.cell?_spot (show W.cell? _=some _ from E)
    simpa [Addr.add] using this
   subst D;refine ⟨b,off,rfl,?_,fun k o=>?_⟩
   ·have:=World.block_lt_of_cell? W _ (show W.cell? _=some _ from E)
    simpa [Addr.add] using this
   ·rw [y] at o;rw [M k o];have z:=(A k o).2.1;simp only [Addr.add_mid] at z;exact ⟨z 0 (by omega),z 1 (by omega),z 2 (by omega),z 3 (by omega),z 4 (by omega)⟩
  ·intro i hi;simp only [List.mem_map,List.mem_range] at hi;obtain ⟨k,o,rfl⟩:=hi;exact (A k o).1
  ·have T:r.map (·.1)=(List.range f).map fun k=>(g k).data:=by
    apply List.ext_getElem?
    intro k
    by_cases o:k<f
    ·rw [(A k o).2.2];simp [o]
    ·rw [List.getElem?_eq_none (by simp;omega),List.getElem?_eq_none (by simp;omega)]
   rw [T,y]
   have X:∀ l:List Nat,Rows.uptoBulkAll (H:=H) (l.map fun k=>(g k).data)=6*l.length:=by
    intro l
    induction l with
    | nil=>rfl
    | cons k l ih=>simp only [List.map_cons,Rows.uptoBulkAll,ih,Rows.uptoBulk,List.length_cons];omega
   simp only [Rows.uptoBulk,X,List.length_range]
   omega
  ·intro w
   have K:Tryz.prog.bytesOf 43=40:=by kernel_rfl
   rw [DataW.weights,Tryz.underlying23] at w;simp only [List.all_cons,Bool.and_eq_true,decide_eq_true_eq,List.length_map,K] at w;have B:=w.1;unfold reachBytes at B;rw [y]
   omega
end Go.Proofs.YtmdhljoicnommaaGreat
