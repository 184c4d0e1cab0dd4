
/-
 An argument that is an instruction,or a slice of them,opened. No condition.
-/
import Derived.Test.YtmdhljoicnommaaGreatME19
import Derived.Deep.MidRow
import Derived.ProofKit
namespace Go.Proofs.YtmdhljoicnommaaGreat
set_option maxHeartbeats 12800000
open Go.ChangeShapes Go.WideShapes Go.ChangeAt Go.RowKit
set_option linter.unusedVariables false
set_option maxRecDepth 100000

abbrev In.cells (i:In):List Value:=[.int .i64 i.op,.int .i64 i.d,.int .i64 i.a,.int .i64 i.b,.int .i64 i.imm]
abbrev In.data {H:Type} (i:In):DataW H:=.agg [.lit (.int .i64 i.op),.lit (.int .i64 i.d),.lit (.int .i64 i.a),.lit (.int .i64 i.b),.lit (.int .i64 i.imm)]
theorem yHf {H:Type}{enc:TypeId×Value->H}{W:World}{base o:Nat}{g:Nat->Bool}{c:Bool}{cs:List Value}{x:DataW H×List MemPlace}(h:DataW.trod enc Tryz.prog W base g c o 43 cs=some x):∃ i:In,cs=i.cells/\i.wf/\x=(i.data,[]):=by
 obtain ⟨xs,n,rfl,P,N,k,f⟩:=DataW.trod_struct Tryz.underlying43 h
 have E:cs.length=5:=by rw [N];kernel_rfl
 have M:Tryz.prog.cellsOf 41=1:=by kernel_rfl
 have l:Tryz.prog.cellsOf 3=1:=by kernel_rfl
 have J:Tryz.prog.cellsOf 2=1:=by kernel_rfl
 match cs,E,xs,k,f with
 | [c0,c1,c2,c3,c4],_,[x0,x1,x2,x3,x4],_,f =>
  have h0:DataW.trod enc Tryz.prog W base g c n 41 (([c0,c1,c2,c3,c4].drop 0).take (Tryz.prog.cellsOf 41))=some x0:=f 0 _ rfl;rw [M] at h0;have y:DataW.trod enc Tryz.prog W base g c n 3 (([c0,c1,c2,c3,c4].drop 1).take (Tryz.prog.cellsOf 3))=some x1:=f 1 _ rfl;rw [l] at y;have u:DataW.trod enc Tryz.prog W base g c n 3 (([c0,c1,c2,c3,c4].drop 2).take (Tryz.prog.cellsOf 3))=some x2:=f 2 _ rfl;rw [l] at u;have D:DataW.trod enc Tryz.prog W base g c n 3 (([c0,c1,c2,c3,c4].drop 3).take (Tryz.prog.cellsOf 3))=some x3:=f 3 _ rfl;rw [l] at D;have A:DataW.trod enc Tryz.prog W base g c n 2 (([c0,c1,c2,c3,c4].drop 4).take (Tryz.prog.cellsOf 2))=some x4:=f 4 _ rfl;rw [J] at A;obtain ⟨op,e0,S,g0⟩:=DataW.trod_int Tryz.underlying41 h0;obtain ⟨d,B,G,Q⟩:=DataW.trod_int Tryz.underlying3 y;obtain ⟨a,r,O,F⟩:=DataW.trod_int Tryz.underlying3 u;obtain ⟨b,w,L,R⟩:=DataW.trod_int Tryz.underlying3 D;obtain ⟨z,s,K,I⟩:=DataW.trod_int Tryz.underlying2 A
  simp at e0 B r w s
  subst e0 B r w s S G O L K;exact ⟨⟨op,d,a,b,z⟩,rfl,⟨g0,Q,F,R,I⟩,P⟩
end Go.Proofs.YtmdhljoicnommaaGreat
