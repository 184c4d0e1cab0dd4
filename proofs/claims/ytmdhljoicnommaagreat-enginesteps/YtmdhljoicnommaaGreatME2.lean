
/-
 Slices of integers,whatever the program: what a slice reads as,what is owned,what later worlds leave of it. No Go text in sight.
-/
import Derived.Test.YtmdhljoicnommaaGreatRows
import Derived.WalkSpells
import Derived.OpenShut
import Derived.Below
import Derived.Maps.AppendAt
import Derived.Deep.Draws
import Derived.Handy
namespace Go.Proofs.YtmdhljoicnommaaGreat
set_option maxHeartbeats 12800000
open Go.RowKit
set_option linter.unusedVariables false

theorem yGo (xs:List Int)(k:Nat)(h:k<xs.length):xs.take (k+1)=xs.take k++[xs.getD k 0]:=by
 rw [List.take_succ_eq_append_getElem h];simp [List.getD,h]
def Sees (k:IntKind) (w:World) (v:Value) (xs:List Int):Prop :=
 ∃ a cap,v=.slice a xs.length cap/\xs.length<=cap/\cap<=maxLen/\(a=none->cap=0)/\(∀ x∈xs,(Lit.int k x).wf=true) /\
  (xs≠[]->∃ b off,a=some ⟨b,off,none⟩/\b<w.heap.size/\∀ i,i<xs.length->w.cell? ⟨b,off+i,none⟩=some (.int k (xs.getD i 0)))
theorem Sees.below {k:IntKind}{w l:World}{v:Value}{xs:List Int}{B:Nat}(h:Sees k w v xs)(f:Below B w l)(s:w.heap.size<=B):Sees k l v xs:=by
 obtain ⟨a,cap,rfl,u,hm,g,o,n⟩:=h;refine ⟨a,cap,rfl,u,hm,g,o,fun d=>?_⟩;obtain ⟨b,off,rfl,c,r⟩:=n d;exact ⟨b,off,rfl,Nat.lt_of_lt_of_le c f.size,fun i hi=>(f.cell (p:=⟨b,off+i,none⟩) (Nat.lt_of_lt_of_le c s)).trans (r i hi)⟩
theorem Sees.own {k:IntKind}{w:World}{base:Nat}{e:TypeId}{v:Value}{xs:List Int}(h:w.ownsRow base e 1 v xs.length (xs.map (Value.int k)))(o:∀ x∈xs,(Lit.int k x).wf=true):Sees k w v xs:=by
 rcases h with ⟨s,⟨rfl,u⟩|⟨g,cap,b,rfl,f,d,a,c,r,l⟩⟩
 ·have:xs=[]:=List.eq_nil_of_length_eq_zero u;subst this;exact ⟨none,0,rfl,by simp,by simp [maxLen],fun _=>rfl,by simp,fun h=>absurd rfl h⟩
 ·refine ⟨_,cap,rfl,a,c,fun h=>by simp at h,o,fun y=>⟨g,0,rfl,?_,fun i hi=>?_⟩⟩
  ·exact (Array.getElem?_eq_some_iff.1 d).1
  ·have h:=World.ownsRow.cellAt (w:=w) (base:=base) (e:=e) (size:=1) (g:=g) (n:=xs.length) (cap:=cap) (xs:=xs.map (Value.int k)) ⟨s,.inr ⟨g,cap,b,rfl,f,d,a,c,r,l⟩⟩ i (by omega);rw [Nat.zero_add,h]
   simp [List.getD,hi]
theorem Sees.shape {k:IntKind}{w:World}{v:Value}{xs:List Int}(h:Sees k w v xs):∃ a cap,v=.slice a xs.length cap:=by
 obtain ⟨a,cap,rfl,_⟩:=h;exact ⟨a,cap,rfl⟩
theorem Sees.wf {k:IntKind}{w:World}{v:Value}{xs:List Int}(h:Sees k w v xs):∀ x∈xs,(Lit.int k x).wf=true:=by
 obtain ⟨a,cap,rfl,d,hm,c,b,f⟩:=h;exact b
theorem qIv {B:Nat}{a w:World}(h:Below B a w)(n:Nat):Below B a (w.drewN n):=⟨h.os,h.tape,h.output,h.size,h.block⟩
theorem yUp {w:World}{base:Nat}{e:TypeId}{v:Value}{n:Nat}{xs:List Value}(h:w.ownsRow base e 1 v n xs)(r:0<n) :
  ∃ g cap,v=.slice (some ⟨g,0,none⟩) n cap/\base<=g/\g<w.heap.size/\n<=cap/\cap<=maxLen/\∀ j u,xs[j]? = some u->w.cell? ⟨g,j,none⟩=some u:=by
 have h0:=h
 rcases h with ⟨o,⟨rfl,s⟩|⟨g,cap,i,rfl,b,f,c,d,l,k⟩⟩
 ·omega
 ·exact ⟨g,cap,rfl,b,(Array.getElem?_eq_some_iff.1 f).1,c,d,fun j u a=>by
   have y:j<xs.length:=(List.getElem?_eq_some_iff.1 a).1
   rw [h0.cellAt j (by omega)];exact a⟩
theorem qCn {w a:World}{B base:Nat}{e:TypeId}{size:Nat}{v:Value}{n:Nat}{xs:List Value}(h:w.ownsRow base e size v n xs)(i:Below B w a)(s:w.heap.size<=B):a.ownsRow base e size v n xs:=by
 rcases h with ⟨b,l|⟨g,cap,c,k,f,d,r⟩⟩
 ·exact ⟨b,.inl l⟩
 ·have o:g<w.heap.size:=(Array.getElem?_eq_some_iff.1 d).1;exact ⟨b,.inr ⟨g,cap,c,k,f,by rw [i.block g (by omega)];exact d,r⟩⟩
theorem qOz {a b c:World}{r:Option Nat}(h:a.grownBy b r)(k:b.grownBy c r):a.grownBy c r :=
 ⟨k.os.trans h.os,k.tape.trans h.tape,k.output.trans h.output,Nat.le_trans h.size k.size,fun i hi d=>(k.block i (Nat.lt_of_lt_of_le hi h.size) d).trans (h.block i hi d)⟩
theorem qQj (a:World)(r:Option Nat):a.grownBy a r:=⟨rfl,rfl,rfl,Nat.le_refl _,fun _ _ _=>rfl⟩
end Go.Proofs.YtmdhljoicnommaaGreat
