
/-
 A machine's cells: registers,turns. No condition.
-/
import Derived.Test.YtmdhljoicnommaaGreatME23
import Derived.Test.YtmdhljoicnommaaGreatME26
namespace Go.Proofs.YtmdhljoicnommaaGreat
set_option maxHeartbeats 12800000
open Go.RowKit
set_option linter.unusedVariables false
set_option linter.unusedSimpArgs false
set_option maxRecDepth 100000

theorem qAn {B:Nat}{w Z:World}(h:Below B w Z):Below B w Z.drew:=⟨h.os,h.tape,h.output,h.size,h.block⟩
def tnC (c:Int->Int):List Value:=(List.range 64).map fun j:Nat=>Value.int .i64 (c j)
theorem qSl (c:Int->Int){j:Nat}(h:j<64):(tnC c)[j]? = some (I4 (c j)):=by
 unfold tnC;rw [List.getElem?_map,List.getElem?_range h]
 rfl
theorem qLn (c:Int->Int):(tnC c).length=64:=by simp [tnC]
theorem yFz (c:Int->Int){p:Nat}(h:p<64)(v:Int):(tnC c).set p (I4 v)=tnC (fun t=>if t=p then v else c t):=by
 apply List.ext_getElem?
 intro j;rw [List.getElem?_set]
 by_cases hj:j<64
 ·by_cases e:p=j
  ·subst e;rw [if_pos rfl,if_pos (by rw [qLn];exact hj),qSl _ hj]
   simp
  ·rw [if_neg e,qSl _ hj,qSl _ hj,if_neg (by omega)]
 ·rw [List.getElem?_eq_none (by rw [qLn];omega),if_neg (by omega),List.getElem?_eq_none (by rw [qLn];omega)]
theorem qDu {R:List Int}{r:Nat}(h:r<R.length):(qBx R)[r]? = some (U8 (R.getD r 0)):=by
 unfold qBx;rw [List.getElem?_map,List.getElem?_eq_getElem h,List.getD_eq_getElem?_getD,List.getElem?_eq_getElem h]
 rfl
theorem qRu (R:List Int)(r:Nat)(v:Int):(qBx R).set r (U8 v)=qBx (R.set r v):=by
 unfold qBx;rw [List.map_set]
def mcC (vm vc:Value) (ev:Int×Int) (sb:Nat) (M:Mc):List Value:=[.int .u64 ev.1,.int .u64 ev.2,vm,vc,.pointer (some ⟨sb,0,none⟩)]++(qBx M.regs++(tnC M.turn++[.int .i64 M.pc,.int .i64 M.steps,.int .i64 M.mode]))
theorem yDk {α:Type}{a b:List α}{n k:Nat}{v:α}(c:a.length=n)(h:b[k]? = some v):(a++b)[n+k]? = some v:=by
 rw [List.getElem?_append_right (by omega),c,show n+k-n=k by omega];exact h
theorem qWy {α:Type}{a b:List α}{k:Nat}{v:α}(h:a[k]? = some v):(a++b)[k]? = some v:=by
 have c:k<a.length:=(List.getElem?_eq_some_iff.1 h).1;rw [List.getElem?_append_left c];exact h
theorem qNh {α:Type}{a b:List α}{n k:Nat}{v:α}(c:a.length=n):(a++b).set (n+k) v=a++b.set k v:=by
 rw [List.set_append_right _ _ (by omega),c,show n+k-n=k by omega]
theorem yBx {α:Type}{a b:List α}{k:Nat}{v:α}(h:k<a.length):(a++b).set k v=a.set k v++b:=by
 rw [List.set_append_left _ _ h]
section
variable {vm vc:Value} {ev:Int×Int} {sb:Nat} {M:Mc}
theorem qPc (k:Nat)(a:k<5):(mcC vm vc ev sb M)[k]? = [Value.int .u64 ev.1,U8 ev.2,vm,vc,.pointer (some ⟨sb,0,none⟩)][k]? := by
 unfold mcC;rw [List.getElem?_append_left (by simpa using a)]
theorem yYs (a:M.regs.length=8){k:Nat}(b:k<8):(mcC vm vc ev sb M)[5+k]? = some (U8 (M.regs.getD k 0)):=by
 unfold mcC;exact yDk rfl (qWy (qDu (by omega)))
theorem yUk (a:M.regs.length=8){k:Nat}(b:k<64):(mcC vm vc ev sb M)[13+k]? = some (I4 (M.turn k)):=by
 unfold mcC;rw [show 13+k=5+(8+k) by omega];exact yDk rfl (yDk (by rw [qEx,a]) (qWy (qSl _ b)))
theorem qTx (a:M.regs.length=8)(k:Nat):(mcC vm vc ev sb M)[77+k]? = [Value.int .i64 M.pc,I4 M.steps,I4 M.mode][k]? := by
 unfold mcC;rw [List.getElem?_append_right (by simp;omega),List.getElem?_append_right (by rw [qEx,a];simp;omega),List.getElem?_append_right (by rw [qEx,a,qLn];simp;omega),qEx,a,qLn];simp only [List.length_cons,List.length_nil]
 congr 1
 omega
theorem yWa {k:Nat}(b:k<8)(a:M.regs.length=8)(v:Int):(mcC vm vc ev sb M).set (5+k) (U8 v)=mcC vm vc ev sb { M with regs:=M.regs.set k v }:=by
 unfold mcC;rw [qNh (by rfl),yBx (by rw [qEx,a];exact b),qRu]
theorem yUr {k:Nat}(a:k<64)(b:M.regs.length=8)(v:Int):(mcC vm vc ev sb M).set (13+k) (I4 v)=mcC vm vc ev sb { M with turn:=fun t=>if t=k then v else M.turn t }:=by
 unfold mcC;rw [show 13+k=5+(8+k) by omega,qNh (by rfl),qNh (by rw [qEx,b]),yBx (by rw [qLn];exact a),yFz _ a]
theorem qUf (a:M.regs.length=8)(k:Nat)(v:Value):(mcC vm vc ev sb M).set (77+k) v=[U8 ev.1,U8 ev.2,vm,vc,.pointer (some ⟨sb,0,none⟩)]++(qBx M.regs++(tnC M.turn++[I4 M.pc,I4 M.steps,I4 M.mode].set k v)):=by
 unfold mcC;rw [show 77+k=5+(8+(64+k)) by omega,qNh (by rfl),qNh (by rw [qEx,a]),qNh (by rw [qLn])]
theorem ySu (a:M.regs.length=8)(p:Nat):(mcC vm vc ev sb M).set 77 (I4 p)=mcC vm vc ev sb { M with pc:=p }:=qUf a 0 _
theorem yWx (a:M.regs.length=8)(p:Nat):(mcC vm vc ev sb M).set 78 (I4 p)=mcC vm vc ev sb { M with steps:=p }:=qUf a 1 _
theorem yTp (a:M.regs.length=8)(p:Nat):(mcC vm vc ev sb M).set 79 (I4 p)=mcC vm vc ev sb { M with mode:=p }:=qUf a 2 _
end
structure Ma (w:World) (b sb:Nat) (vm vc:Value) (ev:Int×Int) (M:Mc):Prop where
 hp:Hp w b 93 (mcC vm vc ev sb M)
 wr:WR M.regs
 pc:M.pc<64
section
variable {w w':World} {b sb:Nat} {vm vc:Value} {ev:Int×Int} {M:Mc}
theorem Ma.below {B:Nat}(h:Ma w b sb vm vc ev M)(a:Below B w w')(c:b<B):Ma w' b sb vm vc ev M:=⟨h.hp.below a c,h.wr,h.pc⟩
theorem Ma.grown {row:Option Nat}(h:Ma w b sb vm vc ev M)(c:w.grownBy w' row)(a:some b≠row):Ma w' b sb vm vc ev M:=⟨h.hp.grown c a,h.wr,h.pc⟩
theorem Ma.drew (h:Ma w b sb vm vc ev M):Ma w.drew b sb vm vc ev M:=⟨h.hp.drew,h.wr,h.pc⟩
theorem Ma.low (h:Ma w b sb vm vc ev M):w.cell? ⟨b,0,none⟩=some (U8 ev.1)/\w.cell? ⟨b,1,none⟩=some (U8 ev.2)/\w.cell? ⟨b,2,none⟩=some vm/\w.cell? ⟨b,3,none⟩=some vc/\w.cell? ⟨b,4,none⟩=some (.pointer (some ⟨sb,0,none⟩)) :=
 ⟨h.hp.cell (qPc 0 (by decide)),h.hp.cell (qPc 1 (by decide)),h.hp.cell (qPc 2 (by decide)),h.hp.cell (qPc 3 (by decide)),h.hp.cell (qPc 4 (by decide))⟩
theorem Ma.reg (h:Ma w b sb vm vc ev M){k:Nat}(a:k<8):w.cell? ⟨b,5+k,none⟩=some (U8 (M.regs.getD k 0)):=h.hp.cell (yYs h.wr.1 a)
theorem Ma.turn (h:Ma w b sb vm vc ev M):w.cell? ⟨b,13+M.pc,none⟩=some (I4 (M.turn M.pc)):=h.hp.cell (yUk h.wr.1 h.pc)
theorem Ma.last (h:Ma w b sb vm vc ev M):w.cell? ⟨b,77,none⟩=some (I4 M.pc)/\w.cell? ⟨b,78,none⟩=some (I4 M.steps)/\w.cell? ⟨b,79,none⟩=some (I4 M.mode) :=
 ⟨h.hp.cell (qTx h.wr.1 0),h.hp.cell (qTx h.wr.1 1),h.hp.cell (qTx h.wr.1 2)⟩
theorem Ma.setR (h:Ma w b sb vm vc ev M){k:Nat}(c:k<8){v:Int}(a:0<=v/\v<=18446744073709551615):Ma (w.setCell ⟨b,5+k,none⟩ (U8 v)) b sb vm vc ev { M with regs:=M.regs.set k v }:=by
 refine ⟨?_,h.wr.set k a,h.pc⟩;have:=h.hp.set (5+k) (U8 v);rw [yWa c h.wr.1] at this;exact this
theorem Ma.setT (h:Ma w b sb vm vc ev M)(v:Int):Ma (w.setCell ⟨b,13+M.pc,none⟩ (I4 v)) b sb vm vc ev { M with turn:=fun t=>if t=M.pc then v else M.turn t }:=by
 refine ⟨?_,h.wr,h.pc⟩;have:=h.hp.set (13+M.pc) (I4 v);rw [yUr h.pc h.wr.1] at this;exact this
theorem Ma.setP (h:Ma w b sb vm vc ev M){p:Nat}(a:p<64):Ma (w.setCell ⟨b,77,none⟩ (I4 p)) b sb vm vc ev { M with pc:=p }:=by
 refine ⟨?_,h.wr,a⟩;have:=h.hp.set 77 (I4 p);rw [ySu h.wr.1] at this;exact this
theorem Ma.setN (h:Ma w b sb vm vc ev M)(p:Nat):Ma (w.setCell ⟨b,78,none⟩ (I4 p)) b sb vm vc ev { M with steps:=p }:=by
 refine ⟨?_,h.wr,h.pc⟩;have:=h.hp.set 78 (I4 p);rw [yWx h.wr.1] at this;exact this
theorem Ma.setM (h:Ma w b sb vm vc ev M)(p:Nat):Ma (w.setCell ⟨b,79,none⟩ (I4 p)) b sb vm vc ev { M with mode:=p }:=by
 refine ⟨?_,h.wr,h.pc⟩;have:=h.hp.set 79 (I4 p);rw [yTp h.wr.1] at this;exact this
end
end Go.Proofs.YtmdhljoicnommaaGreat
