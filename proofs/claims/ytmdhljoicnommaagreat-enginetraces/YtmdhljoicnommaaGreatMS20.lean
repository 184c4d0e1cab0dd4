
/-
 An argument that is an instruction,or a slice of them,opened. No condition.
-/
import Derived.Test.YtmdhljoicnommaaGreatMS19
import Derived.Deep.MidRow
import Derived.ProofKit
namespace Go.Proofs.YtmdhljoicnommaaGreat
set_option maxHeartbeats 12800000
open Go.ChangeShapes Go.WideShapes Go.ChangeAt Go.RowKit
set_option linter.unusedVariables false
set_option maxRecDepth 100000

abbrev In.cells (i:In):List Value:=[.int .i64 i.op,.int .i64 i.d,.int .i64 i.a,.int .i64 i.b,.int .i64 i.imm]
abbrev In.data {H:Type} (i:In):DataW H:=.agg [.lit (.int .i64 i.op),.lit (.int .i64 i.d),.lit (.int .i64 i.a),.lit (.int .i64 i.b),.lit (.int .i64 i.imm)]
theorem inst_cells {H:Type}{enc:TypeId×Value->H}{W:World}{base l:Nat}{g:Nat->Bool}{c:Bool}{cs:List Value}{x:DataW H×List MemPlace}(h:DataW.trod enc Tryz.prog W base g c l 43 cs=some x):∃ i:In,cs=i.cells/\i.wf/\x=(i.data,[]):=by
 obtain ⟨xs,n,rfl,O,I,o,f⟩:=DataW.trod_struct Tryz.underlying43 h
 have P:cs.length=5:=by rw [I];kernel_rfl
 have Q:Tryz.prog.cellsOf 41=1:=by kernel_rfl
 have k:Tryz.prog.cellsOf 3=1:=by kernel_rfl
 have M:Tryz.prog.cellsOf 2=1:=by kernel_rfl
 match cs,P,xs,o,f with
 | [c0,c1,c2,c3,c4],_,[x0,x1,x2,x3,x4],_,f =>
  have h0:DataW.trod enc Tryz.prog W base g c n 41 (([c0,c1,c2,c3,c4].drop 0).take (Tryz.prog.cellsOf 41))=some x0:=f 0 _ rfl;rw [Q] at h0;have A:DataW.trod enc Tryz.prog W base g c n 3 (([c0,c1,c2,c3,c4].drop 1).take (Tryz.prog.cellsOf 3))=some x1:=f 1 _ rfl;rw [k] at A;have s:DataW.trod enc Tryz.prog W base g c n 3 (([c0,c1,c2,c3,c4].drop 2).take (Tryz.prog.cellsOf 3))=some x2:=f 2 _ rfl;rw [k] at s;have B:DataW.trod enc Tryz.prog W base g c n 3 (([c0,c1,c2,c3,c4].drop 3).take (Tryz.prog.cellsOf 3))=some x3:=f 3 _ rfl;rw [k] at B;have w:DataW.trod enc Tryz.prog W base g c n 2 (([c0,c1,c2,c3,c4].drop 4).take (Tryz.prog.cellsOf 2))=some x4:=f 4 _ rfl;rw [M] at w;obtain ⟨op,e0,N,g0⟩:=DataW.trod_int Tryz.underlying41 h0;obtain ⟨d,y,K,J⟩:=DataW.trod_int Tryz.underlying3 A;obtain ⟨a,z,S,L⟩:=DataW.trod_int Tryz.underlying3 s;obtain ⟨b,r,E,F⟩:=DataW.trod_int Tryz.underlying3 B;obtain ⟨u,D,R,G⟩:=DataW.trod_int Tryz.underlying2 w
  simp at e0 y z r D
  subst e0 y z r D N K S E R;exact ⟨⟨op,d,a,b,u⟩,rfl,⟨g0,J,L,F,G⟩,O⟩
end Go.Proofs.YtmdhljoicnommaaGreat
