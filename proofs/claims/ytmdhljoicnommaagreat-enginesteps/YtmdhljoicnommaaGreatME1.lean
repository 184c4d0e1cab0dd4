
/-
 Several operations of a region that draws,taken first one behind the other: the list says which. No condition.
-/
import Derived.Deep.RegionHeld
namespace Go.Proofs.YtmdhljoicnommaaGreat
set_option maxHeartbeats 12800000
open Go
section
variable {P:Program} {md:Region.Mode} {ops:Array Oper} {Q:Exit->Act->World->Prop} {S:World->Prop} {fuel:Nat} {listed:Array Bool} {a:Act} {w:World}
structure Tk (ks:List Nat) (P:Program) (md:Region.Mode) (ops:Array Oper) (Q:Exit->Act->World->Prop) (S:World->Prop) (fuel:Nat) (listed:Array Bool) (a:Act) (w:World):Prop where
 out:wpAnyH P md ops Q S fuel listed a w
theorem qBb (ks:List Nat)(h:Tk ks P md ops Q S fuel listed a w):wpAnyH P md ops Q S fuel listed a w:=h.out
theorem qAs (h:wpAnyH P md ops Q S fuel listed a w):Tk [] P md ops Q S fuel listed a w:=⟨h⟩
theorem xCn {i:Nat}{ks:List Nat}{b:Oper}{v:Value}(hi:ops[i]? = some b)(g:Region.noSelect ops=true)(o:Region.free md ops listed i=true)(n:(Region.ready md ops listed).contains i=true)(d:∀ c a w,Q (.panic c) (a.put b.dst v) w->Q (.panic c) a w)(k:S w)(l:Region.wanted b (yielded ops a.tmps)=true)(f:∀ w,S w->(execOp a.eval b).run P w=.ok (.value v) w)(h:Tk ks P md ops Q S fuel (listed.setIfInBounds i true) (a.put b.dst v) w):Tk (i :: ks) P md ops Q S (fuel+1) listed a w :=
 ⟨wpAnyH_take hi g o n d (Or.inl ⟨l,f⟩) k h.out⟩
theorem qAr (i:Nat){o:Oper}(d:Region.ready md ops listed=[i])(b:ops[i]? = some o)(c:Region.wanted o (yielded ops a.tmps)=true)(h:∀ K':Act->World->Prop,Shut (∀ a w,S w->(S w->wpAnyH P md ops Q S fuel (listed.setIfInBounds i true) a w)->K' a w)->Oper.wp P o a w K' Q):wpAnyH P md ops Q S (fuel+1) listed a w :=
 wpAnyH_ready d (by simp) (AllReadyH.cons b (fun K hK=>by rw [if_pos c];exact h K hK) AllReadyH.nil)
theorem qOc (i j:Nat){o u:Oper}(c:Region.ready md ops listed=[i,j])(d:ops[i]? = some o)(k:ops[j]? = some u)(b:Region.wanted o (yielded ops a.tmps)=true)(f:Region.wanted u (yielded ops a.tmps)=true)(h:∀ K':Act->World->Prop,Shut (∀ a w,S w->(S w->wpAnyH P md ops Q S fuel (listed.setIfInBounds i true) a w)->K' a w)->Oper.wp P o a w K' Q)(g:∀ K':Act->World->Prop,Shut (∀ a w,S w->(S w->wpAnyH P md ops Q S fuel (listed.setIfInBounds j true) a w)->K' a w)->Oper.wp P u a w K' Q):wpAnyH P md ops Q S (fuel+1) listed a w :=
 wpAnyH_ready c (by simp) (AllReadyH.cons d (fun K hK=>by rw [if_pos b];exact h K hK) (AllReadyH.cons k (fun K hK=>by rw [if_pos f];exact g K hK) AllReadyH.nil))
theorem tkO {i:Nat}{ks:List Nat}{b:Oper}{v:Value}(hi:ops[i]? = some b)(f:∀ w,S w->(execOp a.eval b).run P w=.ok (.value v) w)(h:Tk ks P md ops Q S fuel (listed.setIfInBounds i true) (a.put b.dst v) w)(g:Region.noSelect ops=true:=by kernel_rfl)(o:Region.free md ops listed i=true:=by kernel_rfl)(n:(Region.ready md ops listed).contains i=true:=by kernel_rfl)(d:∀ c a w,Q (.panic c) (a.put b.dst v) w->Q (.panic c) a w:=by exact fun _ _ _ h=>h)(k:S w:=by assumption)(l:Region.wanted b (yielded ops a.tmps)=true:=by rfl):Tk (i :: ks) P md ops Q S (fuel+1) listed a w :=
 xCn hi g o n d k l f h
end
theorem p1q {α:Type _}{xs:List α}{i:Nat}(h:i<xs.toArray.size):xs.toArray[i]=xs[i]'(by simpa using h):=rfl
theorem p2q {α:Type _}{a:α}{l:List α}(h:0<(a :: l).length):(a :: l)[0]=a:=rfl
theorem p3q {α:Type _}{a:α}{l:List α}{i:Nat}(h:i+1<(a :: l).length):(a :: l)[i+1]=l[i]'(Nat.lt_of_succ_lt_succ h):=rfl
theorem p4q {α:Type _}{l:List α}{i:Nat}{a:α}:l.toArray.setIfInBounds i a=(l.set i a).toArray:=List.setIfInBounds_toArray ..
theorem p5q {α:Type _}{a b:α}{l:List α}:(b :: l).set 0 a=a :: l:=rfl
theorem p6q {α:Type _}{a b:α}{n:Nat}{l:List α}:(b :: l).set (n+1) a=b :: l.set n a:=rfl
end Go.Proofs.YtmdhljoicnommaaGreat
