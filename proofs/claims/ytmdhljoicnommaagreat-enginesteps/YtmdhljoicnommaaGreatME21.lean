
/-
 Slices of instructions,whatever the program does with them: their cells one behind the other,an append of one to an own one. No Go text in sight.
-/
import Derived.Test.YtmdhljoicnommaaGreatME20
import Derived.Test.YtmdhljoicnommaaGreatME2
import Derived.Laws.AppendOwn
import Derived.Laws.OwnMore
namespace Go.Proofs.YtmdhljoicnommaaGreat
set_option maxHeartbeats 12800000
open Go.RowKit
set_option linter.unusedVariables false
set_option maxRecDepth 100000

def qGb (xs:List In):List Value:=xs.flatMap In.cells
theorem qLr (xs:List In):(qGb xs).length=xs.length*5:=by
 induction xs with
 | nil=>rfl
 | cons x xs ih =>
  have e:qGb (x :: xs)=x.cells++qGb xs:=rfl;rw [e,List.length_append,ih,List.length_cons]
  simp;omega
theorem qWh:∀ (xs:List In)(k j:Nat),k<xs.length->j<5->(qGb xs)[k*5+j]? = (xs.getD k In.nil).cells[j]?
 | [],k,j,hk,_=>by simp at hk
 | x :: xs,0,j,_,hj=>by
  have e:qGb (x :: xs)=x.cells++qGb xs:=rfl;rw [e,List.getElem?_append_left (by simp [In.cells];omega)]
  simp
 | x :: xs,k+1,j,hk,hj=>by
  have e:qGb (x :: xs)=x.cells++qGb xs:=rfl;have a:x.cells.length=5:=rfl;rw [e,List.getElem?_append_right (by rw [a];omega),a,show (k+1)*5+j-5=k*5+j by omega,qWh xs k j (by simpa using hk) hj]
  simp [List.getD]
theorem yUx {w:World}{b off:Nat}{i:In}(h:At w b off i)(j:Nat)(k:j<5):w.cell? ⟨b,off+j,none⟩=i.cells[j]? := by
 obtain ⟨h0,d,g,a,f⟩:=h
 have c:j=0∨j=1∨j=2∨j=3∨j=4:=by omega
 rcases c with rfl|rfl|rfl|rfl|rfl
 ·exact h0
 ·exact d
 ·exact g
 ·exact a
 ·exact f
theorem yVx {w:World}{b off:Nat}{i:In}(h:∀ j,j<5->w.cell? ⟨b,off+j,none⟩=i.cells[j]?):At w b off i:=⟨h 0 (by omega),h 1 (by omega),h 2 (by omega),h 3 (by omega),h 4 (by omega)⟩
theorem qWd {w:World}{b off:Nat}{xs:List In}(h:∀ k,k<xs.length->At w b (off+k*5) (xs.getD k In.nil))(j:Nat)(u:Value)(a:(qGb xs)[j]? = some u):w.cell? ((⟨b,off,none⟩:Addr).add j)=some u:=by
 have c:j<xs.length*5:=by rw [<- qLr];exact (List.getElem?_eq_some_iff.1 a).1
 have e:j=(j / 5)*5+j%5:=by omega
 rw [e,qWh xs (j / 5) (j%5) (by omega) (by omega)] at a;rw [Addr.add_mid,<- a,<- yUx (h (j / 5) (by omega)) (j%5) (by omega)]
 congr 2
 omega
theorem ySl (xs:List In):∀ u∈qGb xs,u.oneCell'=true:=by
 intro u a;simp only [qGb,List.mem_flatMap] at a;obtain ⟨i,_,hi⟩:=a;simp only [In.cells,List.mem_cons,List.not_mem_nil,or_false] at hi
 rcases hi with rfl|rfl|rfl|rfl|rfl<;>rfl
theorem qSe {w:World}{base:Nat}{e:TypeId}{v:Value}{xs:List In}(h:w.ownsRow base e 5 v xs.length (qGb xs)):SeesI w v xs:=by
 have h0:=h
 rcases h with ⟨u,⟨rfl,i⟩|⟨g,cap,n,rfl,o,a,b,d,s,r⟩⟩
 ·have:xs=[]:=List.eq_nil_of_length_eq_zero i;subst this;exact ⟨none,0,rfl,by simp,by simp [maxLen],fun _=>rfl,fun h=>absurd rfl h⟩
 ·refine ⟨_,cap,rfl,b,d,fun h=>by simp at h,fun l=>⟨g,0,rfl,(Array.getElem?_eq_some_iff.1 a).1,fun k c=>yVx fun j f=>?_⟩⟩;rw [Nat.zero_add,h0.cellAt (k*5+j) (by omega)];exact qWh xs k j c f
theorem yNc (w:World)(e:TypeId):(w.alloc (.cells #[] e)).ownsRow w.heap.size e 5 (.slice (some ⟨w.heap.size,0,none⟩) 0 0) 0 (qGb []):=by
 refine ⟨rfl,.inr ⟨w.heap.size,0,#[],rfl,Nat.le_refl _,?_,Nat.le_refl _,by simp [maxLen],rfl,rfl⟩⟩
 show (w.heap.push _)[w.heap.size]? = _
 simp
theorem qRc {P:Program}{w:World}{D:Array Oper}{u:List Oper}{o:Oper}{a:Act}{Q:Exit->Act->World->Prop}(X:o.guard=none)(s x:Operand)(t:TypeId)(J:o.op=.call { callee:=.builtin .append,args:=#[s,x],argTypes:=#[t,t] })(base:Nat)(e:TypeId)(i:TypeInfo)(z:Value)(N:P.underlying t=some (.slice e))(hi:P.info? e=some i)(V:i.zero=some z)(n:i.size=5)(B:i.bytes=40)(F:z.cells.size=5)(v:Value)(xs:List In)(G:a.eval s=v)(d:w.ownsRow base e 5 v xs.length (qGb xs))(E:Value)(c:List In)(O:a.eval x=E)(L:SeesI w E c)(A:xs.length+c.length<=maxLen)(f:(xs.length+c.length)*40<=140737488355328)(k:base<=w.heap.size)(h:∀ r g,g.ownsRow base e 5 r (xs++c).length (qGb (xs++c))->w.grownBy g v.ownBlock->wpList P D Q u (a.put o.dst r) g):wpList P D Q (o :: u) a w:=by
 have Z:∀ l m:List In,qGb l++qGb m=qGb (l++m):=fun l m=>by simp [qGb]
 refine wpList_plain X fun K hK=>?_
 obtain ⟨R,cap,rfl,hl,hm,S,Y⟩:=L
 by_cases hne:c=[]
 ·subst hne
  cases R with
  | none =>
   obtain rfl:cap=0:=S rfl;have I:=run_append_owned_none (P:=P) (w:=w) base t o.type e i 5 N hi v _ _ d;have T:a.eval x=.slice none 0 0:=O;unfold Oper.wp
   simp [execOp,J,resolve,invoke,builtin,G,T,I,Result.andThen]
   exact hK _ _ (h v w (by simpa using d) ⟨rfl,rfl,rfl,Nat.le_refl _,fun _ _ _=>rfl⟩)
  | some R =>
   refine wp_append_own w s x t J base e i z 5 40 N hi V n B F (by decide) v _ _ G d R 0 cap [] O rfl (by simp) (by simp) (by simpa using A) (by simpa using f) k ?_;intro r g y M _;exact hK _ _ (h r g (by simpa using y) M)
 ·obtain ⟨b,off,rfl,a0,U⟩:=Y hne;refine wp_append_own w s x t J base e i z 5 40 N hi V n B F (by decide) v _ _ G d ⟨b,off,none⟩ c.length cap (qGb c) O (qLr c) (qWd U) (ySl c) A f k ?_;intro r g y M _;exact hK _ _ (h r g (by rw [Z,<- List.length_append] at y;exact y) M)
end Go.Proofs.YtmdhljoicnommaaGreat
