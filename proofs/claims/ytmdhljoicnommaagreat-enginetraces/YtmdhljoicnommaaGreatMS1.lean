
/-
 Several operations of a region that draws,taken first one behind the other: the list says which. No condition.
-/
import Derived.Deep.RegionHeld
namespace Go.Proofs.YtmdhljoicnommaaGreat
set_option maxHeartbeats 12800000
open Go
section
variable {P:Program} {md:Region.Mode} {ops:Array Oper} {Q:Exit->Act->World->Prop} {S:World->Prop} {fuel:Nat} {listed:Array Bool} {a:Act} {w:World}
structure Tk (ks:List Nat) (P:Program) (md:Region.Mode) (ops:Array Oper) (Q:Exit->Act->World->Prop) (S:World->Prop) (fuel:Nat) (listed:Array Bool) (a:Act) (w:World):Prop where
 out:wpAnyH P md ops Q S fuel listed a w
theorem tkGo (b:List Nat)(h:Tk b P md ops Q S fuel listed a w):wpAnyH P md ops Q S fuel listed a w:=h.out
theorem tkEnd (h:wpAnyH P md ops Q S fuel listed a w):Tk [] P md ops Q S fuel listed a w:=⟨h⟩
theorem tkOne {i:Nat}{d:List Nat}{b:Oper}{v:Value}(hi:ops[i]? = some b)(l:Region.noSelect ops=true)(o:Region.free md ops listed i=true)(k:(Region.ready md ops listed).contains i=true)(g:∀ c a w,Q (.panic c) (a.put b.dst v) w->Q (.panic c) a w)(r:S w)(n:Region.wanted b (yielded ops a.tmps)=true)(f:∀ w,S w->(execOp a.eval b).run P w=.ok (.value v) w)(h:Tk d P md ops Q S fuel (listed.setIfInBounds i true) (a.put b.dst v) w):Tk (i :: d) P md ops Q S (fuel+1) listed a w :=
 ⟨wpAnyH_take hi l o k g (Or.inl ⟨n,f⟩) r h.out⟩
theorem runO (i:Nat){o:Oper}(c:Region.ready md ops listed=[i])(b:ops[i]? = some o)(d:Region.wanted o (yielded ops a.tmps)=true)(h:∀ K':Act->World->Prop,Shut (∀ a w,S w->(S w->wpAnyH P md ops Q S fuel (listed.setIfInBounds i true) a w)->K' a w)->Oper.wp P o a w K' Q):wpAnyH P md ops Q S (fuel+1) listed a w :=
 wpAnyH_ready c (by simp) (AllReadyH.cons b (fun K hK=>by rw [if_pos d];exact h K hK) AllReadyH.nil)
theorem runT (i j:Nat){o u:Oper}(c:Region.ready md ops listed=[i,j])(b:ops[i]? = some o)(d:ops[j]? = some u)(f:Region.wanted o (yielded ops a.tmps)=true)(k:Region.wanted u (yielded ops a.tmps)=true)(h:∀ K':Act->World->Prop,Shut (∀ a w,S w->(S w->wpAnyH P md ops Q S fuel (listed.setIfInBounds i true) a w)->K' a w)->Oper.wp P o a w K' Q)(g:∀ K':Act->World->Prop,Shut (∀ a w,S w->(S w->wpAnyH P md ops Q S fuel (listed.setIfInBounds j true) a w)->K' a w)->Oper.wp P u a w K' Q):wpAnyH P md ops Q S (fuel+1) listed a w :=
 wpAnyH_ready c (by simp) (AllReadyH.cons b (fun K hK=>by rw [if_pos f];exact h K hK) (AllReadyH.cons d (fun K hK=>by rw [if_pos k];exact g K hK) AllReadyH.nil))
theorem tkO {i:Nat}{d:List Nat}{b:Oper}{v:Value}(hi:ops[i]? = some b)(f:∀ w,S w->(execOp a.eval b).run P w=.ok (.value v) w)(h:Tk d P md ops Q S fuel (listed.setIfInBounds i true) (a.put b.dst v) w)(l:Region.noSelect ops=true:=by kernel_rfl)(o:Region.free md ops listed i=true:=by kernel_rfl)(k:(Region.ready md ops listed).contains i=true:=by kernel_rfl)(g:∀ c a w,Q (.panic c) (a.put b.dst v) w->Q (.panic c) a w:=by exact fun _ _ _ h=>h)(r:S w:=by assumption)(n:Region.wanted b (yielded ops a.tmps)=true:=by rfl):Tk (i :: d) P md ops Q S (fuel+1) listed a w :=
 tkOne hi l o k g r n f h
end
theorem p1q {α:Type _}{xs:List α}{i:Nat}(h:i<xs.toArray.size):xs.toArray[i]=xs[i]'(by simpa using h):=rfl
theorem p2q {α:Type _}{a:α}{l:List α}(h:0<(a :: l).length):(a :: l)[0]=a:=rfl
theorem p3q {α:Type _}{a:α}{l:List α}{i:Nat}(h:i+1<(a :: l).length):(a :: l)[i+1]=l[i]'(Nat.lt_of_succ_lt_succ h):=rfl
theorem p4q {α:Type _}{l:List α}{i:Nat}{a:α}:l.toArray.setIfInBounds i a=(l.set i a).toArray:=List.setIfInBounds_toArray ..
theorem p5q {α:Type _}{a b:α}{l:List α}:(b :: l).set 0 a=a :: l:=rfl
theorem p6q {α:Type _}{a b:α}{n:Nat}{l:List α}:(b :: l).set (n+1) a=b :: l.set n a:=rfl
end Go.Proofs.YtmdhljoicnommaaGreat
