
/-
 Slices of instructions,whatever the program does with them: their cells one behind the other,an append of one to an own one. No Go text in sight.
-/
import Derived.Test.YtmdhljoicnommaaGreatMS20
import Derived.Test.YtmdhljoicnommaaGreatMS2
import Derived.Laws.AppendOwn
import Derived.Laws.OwnMore
namespace Go.Proofs.YtmdhljoicnommaaGreat
set_option maxHeartbeats 12800000
open Go.RowKit
set_option linter.unusedVariables false
set_option maxRecDepth 100000

def flat (xs:List In):List Value:=xs.flatMap In.cells
theorem flat_len (xs:List In):(flat xs).length=xs.length*5:=by
 induction xs with
 | nil=>rfl
 | cons x xs ih =>
  have e:flat (x :: xs)=x.cells++flat xs:=rfl;rw [e,List.length_append,ih,List.length_cons]
  simp;omega
theorem flat_at:∀ (xs:List In)(k j:Nat),k<xs.length->j<5->(flat xs)[k*5+j]? = (xs.getD k In.nil).cells[j]?
 | [],k,j,hk,_=>by simp at hk
 | x :: xs,0,j,_,hj=>by
  have e:flat (x :: xs)=x.cells++flat xs:=rfl;rw [e,List.getElem?_append_left (by simp [In.cells];omega)]
  simp
 | x :: xs,k+1,j,hk,hj=>by
  have e:flat (x :: xs)=x.cells++flat xs:=rfl;have a:x.cells.length=5:=rfl;rw [e,List.getElem?_append_right (by rw [a];omega),a,show (k+1)*5+j-5=k*5+j by omega,flat_at xs k j (by simpa using hk) hj]
  simp [List.getD]
theorem at_cells {w:World}{b off:Nat}{i:In}(h:At w b off i)(j:Nat)(k:j<5):w.cell? ⟨b,off+j,none⟩=i.cells[j]? := by
 obtain ⟨h0,f,g,d,c⟩:=h
 have a:j=0∨j=1∨j=2∨j=3∨j=4:=by omega
 rcases a with rfl|rfl|rfl|rfl|rfl
 ·exact h0
 ·exact f
 ·exact g
 ·exact d
 ·exact c
theorem cells_at {w:World}{b off:Nat}{i:In}(h:∀ j,j<5->w.cell? ⟨b,off+j,none⟩=i.cells[j]?):At w b off i:=⟨h 0 (by omega),h 1 (by omega),h 2 (by omega),h 3 (by omega),h 4 (by omega)⟩
theorem flat_cells {w:World}{b off:Nat}{xs:List In}(h:∀ k,k<xs.length->At w b (off+k*5) (xs.getD k In.nil))(j:Nat)(u:Value)(a:(flat xs)[j]? = some u):w.cell? ((⟨b,off,none⟩:Addr).add j)=some u:=by
 have c:j<xs.length*5:=by rw [<- flat_len];exact (List.getElem?_eq_some_iff.1 a).1
 have e:j=(j / 5)*5+j%5:=by omega
 rw [e,flat_at xs (j / 5) (j%5) (by omega) (by omega)] at a;rw [Addr.add_mid,<- a,<- at_cells (h (j / 5) (by omega)) (j%5) (by omega)]
 congr 2
 omega
theorem flat_one (xs:List In):∀ u∈flat xs,u.oneCell'=true:=by
 intro u a;simp only [flat,List.mem_flatMap] at a;obtain ⟨i,_,hi⟩:=a;simp only [In.cells,List.mem_cons,List.not_mem_nil,or_false] at hi
 rcases hi with rfl|rfl|rfl|rfl|rfl<;>rfl
theorem own_seesI {w:World}{base:Nat}{e:TypeId}{v:Value}{xs:List In}(h:w.ownsRow base e 5 v xs.length (flat xs)):SeesI w v xs:=by
 have h0:=h
 rcases h with ⟨r,⟨rfl,d⟩|⟨g,cap,l,rfl,o,a,c,b,u,s⟩⟩
 ·have:xs=[]:=List.eq_nil_of_length_eq_zero d;subst this;exact ⟨none,0,rfl,by simp,by simp [maxLen],fun _=>rfl,fun h=>absurd rfl h⟩
 ·refine ⟨_,cap,rfl,c,b,fun h=>by simp at h,fun n=>⟨g,0,rfl,(Array.getElem?_eq_some_iff.1 a).1,fun k f=>cells_at fun j i=>?_⟩⟩;rw [Nat.zero_add,h0.cellAt (k*5+j) (by omega)];exact flat_at xs k j f i
theorem own_empty (w:World)(e:TypeId):(w.alloc (.cells #[] e)).ownsRow w.heap.size e 5 (.slice (some ⟨w.heap.size,0,none⟩) 0 0) 0 (flat []):=by
 refine ⟨rfl,.inr ⟨w.heap.size,0,#[],rfl,Nat.le_refl _,?_,Nat.le_refl _,by simp [maxLen],rfl,rfl⟩⟩
 show (w.heap.push _)[w.heap.size]? = _
 simp
theorem wpList_append_seesI {P:Program}{w:World}{D:Array Oper}{u:List Oper}{o:Oper}{a:Act}{Q:Exit->Act->World->Prop}(T:o.guard=none)(s x:Operand)(t:TypeId)(J:o.op=.call { callee:=.builtin .append,args:=#[s,x],argTypes:=#[t,t] })(base:Nat)(e:TypeId)(i:TypeInfo)(z:Value)(I:P.underlying t=some (.slice e))(hi:P.info? e=some i)(U:i.zero=some z)(k:i.size=5)(A:i.bytes=40)(E:z.cells.size=5)(v:Value)(xs:List In)(R:a.eval s=v)(d:w.ownsRow base e 5 v xs.length (flat xs))(B:Value)(c:List In)(N:a.eval x=B)(L:SeesI w B c)(F:xs.length+c.length<=maxLen)(f:(xs.length+c.length)*40<=140737488355328)(n:base<=w.heap.size)(h:∀ r g,g.ownsRow base e 5 r (xs++c).length (flat (xs++c))->w.grownBy g v.ownBlock->wpList P D Q u (a.put o.dst r) g):wpList P D Q (o :: u) a w:=by
 have Z:∀ l m:List In,flat l++flat m=flat (l++m):=fun l m=>by simp [flat]
 refine wpList_plain T fun K hK=>?_
 obtain ⟨O,cap,rfl,hl,hm,X,Y⟩:=L
 by_cases hne:c=[]
 ·subst hne
  cases O with
  | none =>
   obtain rfl:cap=0:=X rfl;have G:=run_append_owned_none (P:=P) (w:=w) base t o.type e i 5 I hi v _ _ d;have V:a.eval x=.slice none 0 0:=N;unfold Oper.wp
   simp [execOp,J,resolve,invoke,builtin,R,V,G,Result.andThen]
   exact hK _ _ (h v w (by simpa using d) ⟨rfl,rfl,rfl,Nat.le_refl _,fun _ _ _=>rfl⟩)
  | some O =>
   refine wp_append_own w s x t J base e i z 5 40 I hi U k A E (by decide) v _ _ R d O 0 cap [] N rfl (by simp) (by simp) (by simpa using F) (by simpa using f) n ?_;intro r g y M _;exact hK _ _ (h r g (by simpa using y) M)
 ·obtain ⟨b,off,rfl,a0,S⟩:=Y hne;refine wp_append_own w s x t J base e i z 5 40 I hi U k A E (by decide) v _ _ R d ⟨b,off,none⟩ c.length cap (flat c) N (flat_len c) (flat_cells S) (flat_one c) F f n ?_;intro r g y M _;exact hK _ _ (h r g (by rw [Z,<- List.length_append] at y;exact y) M)
end Go.Proofs.YtmdhljoicnommaaGreat
