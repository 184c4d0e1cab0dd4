
/-
 Rows of states in memory: a row of the call's own,each of its places a row of types of its own,or none.
-/
import Derived.Test.YtmdhljoicnommaaGreatME43
import Derived.Laws.MakeOwn
namespace Go.Proofs.YtmdhljoicnommaaGreat
set_option maxHeartbeats 12800000
open Go.RowKit
set_option linter.unusedVariables false
set_option linter.unusedSimpArgs false
set_option maxRecDepth 100000

abbrev stN:Value:=.slice none 0 0
theorem yXw {w:World}{B u:Nat}{e c:TypeId}{z D:Nat}{v f:Value}{n F:Nat}{xs d:List Value}(h:w.ownsRow B e z v n xs)(y:w.ownsRow u c D f F d)(b:e≠c):v.ownBlock=none∨v.ownBlock≠f.ownBlock:=by
 rcases h with ⟨_,⟨rfl,_⟩|⟨g,cap,G,rfl,_,A,_⟩⟩
 ·exact .inl rfl
 rcases y with ⟨_,⟨rfl,_⟩|⟨o,i,k,rfl,_,a,_⟩⟩
 ·exact .inr (by simp [Value.ownBlock])
 ·refine .inr fun r=>?_
  have l:g=o:=by simpa [Value.ownBlock] using r
  subst l;rw [A] at a;injection a with s;injection s with I E;exact b E
structure SsW (B:Nat) (w:World) (v:Value) (S:List St) (vs:List Value):Prop where
 len:vs.length=S.length
 row:w.ownsRow B 124 1 v S.length vs
 each:∀ i,i<S.length->w.ownsRow B 153 4 (vs.getD i stN) (S.getD i []).length (qAo (S.getD i []))
def Ss (B:Nat) (w:World) (v:Value) (S:List St):Prop:=∃ vs,SsW B w v S vs
theorem SsW.below {B d:Nat}{w a:World}{v:Value}{S:List St}{vs:List Value}(h:SsW B w v S vs)(b:Below d w a)(c:w.heap.size<=d):SsW B a v S vs :=
 ⟨h.len,qCn h.row b c,fun i hi=>qCn (h.each i hi) b c⟩
theorem Ss.below {B b:Nat}{w a:World}{v:Value}{S:List St}(h:Ss B w v S)(c:Below b w a)(d:w.heap.size<=b):Ss B a v S:=by
 obtain ⟨vs,h⟩:=h;exact ⟨vs,h.below c d⟩
theorem Ss.base {B b:Nat}{w:World}{v:Value}{S:List St}(h:Ss B w v S)(a:b<=B):Ss b w v S:=by
 obtain ⟨vs,h⟩:=h;exact ⟨vs,h.len,qCe h.row a,fun i hi=>qCe (h.each i hi) a⟩
theorem Ss.nil (B:Nat)(w:World):Ss B w stN []:=⟨[],rfl,World.ownsRow_nil _ _ _ _,fun i hi=>by simp at hi⟩
theorem SsW.shape {B:Nat}{w:World}{v:Value}{S:List St}{vs:List Value}(h:SsW B w v S vs):∃ a c,v=.slice a S.length c:=qIo h.row
theorem Ss.shape {B:Nat}{w:World}{v:Value}{S:List St}(h:Ss B w v S):∃ a c,v=.slice a S.length c:=by
 obtain ⟨vs,h⟩:=h;exact h.shape
theorem Ss.get {B:Nat}{w:World}{v:Value}{S:List St}(h:Ss B w v S){i:Nat}(hi:i<S.length):∃ g c a d,v=.slice (some ⟨g,0,none⟩) S.length c/\g<w.heap.size/\S.length<=c/\w.cell? ⟨g,i,none⟩=some (.slice a (S.getD i []).length d)/\SeesT w (.slice a (S.getD i []).length d) (S.getD i [])/\w.ownsRow B 153 4 (.slice a (S.getD i []).length d) (S.getD i []).length (qAo (S.getD i [])):=by
 obtain ⟨vs,h⟩:=h;have k:=h.row;have he:=h.each i hi;obtain ⟨a,d,l⟩:=qIo he
 rcases id k with ⟨y,⟨_,h0⟩|⟨g,c,s,rfl,u,r,o,_⟩⟩
 ·omega
 ·have b:=k.cellAt i (by omega)
  have f:i<vs.length:=by rw [h.len];exact hi
  have n:vs.getD i stN=vs[i]:=by simp [List.getD,List.getElem?_eq_getElem f]
  rw [List.getElem?_eq_getElem f,<- n,l] at b;rw [l] at he;exact ⟨g,c,a,d,rfl,(Array.getElem?_eq_some_iff.1 r).1,o,b,qGc he,he⟩
theorem SsW.push {B:Nat}{w a:World}{v g u:Value}{S:List St}{vs:List Value}{s:St}{o:Obj}(h:SsW B w v S vs)(r:w.ownsRow B 153 4 u s.length (qAo s))(c:a.ownsRow B 124 1 g (S.length+1) (vs++[u]))(y:(w.alloc o).grownBy a v.ownBlock):SsW B a g (S++[s]) (vs++[u]):=by
 have k:∀ {x:Value} {n:Nat} {l:List Value},w.ownsRow B 153 4 x n l->a.ownsRow B 153 4 x n l:=fun {x n l} hx=>(hx.alloc o).kept y (yXw hx h.row (by decide))
 refine ⟨by simp [h.len],by simpa using c,fun i hi=>?_⟩
 by_cases hl:i<S.length
 ·have b:(vs++[u]).getD i stN=vs.getD i stN:=by simp [List.getD,List.getElem?_append_left (show i<vs.length by rw [h.len];exact hl)]
  have d:(S++[s]).getD i []=S.getD i []:=by simp [List.getD,List.getElem?_append_left hl]
  rw [b,d];exact k (h.each i hl)
 ·have f:i=S.length:=by simp at hi;omega
  subst f
  have b:(vs++[u]).getD S.length stN=u:=by rw [<- h.len];simp [List.getD]
  have d:(S++[s]).getD S.length []=s:=by simp [List.getD]
  rw [b,d];exact k r
theorem Tryz.infoSt:(Tryz.prog.info? 124).map (fun i=>(i.zero,i.size,i.bytes))=some (some (.slice none 0 0),1,24):=by kernel_rfl
theorem qMr (u:Value)(a:Option Addr)(n c:Nat)(h:u=.slice a n c):∀ x∈[u],x.oneCell'=true:=by intro x b;simp at b;subst b;subst h;rfl
theorem qKp (w:World)(g:Nat)(b:g=w.heap.size)(u:Value)(t:TypeId):∀ j x,[u][j]? = some x->(w.alloc (.cells #[u] t)).cell? ((⟨g,0,none⟩:Addr).add j)=some x:=by
 intro j x a;subst b
 cases j with
 | zero=>simp at a;subst a;simp [Addr.add]
 | succ j=>simp at a
theorem qYc (w:World):(Instr.makeSlice 124 (I4 8) (I4 8)).run Tryz.prog w=.ok (.slice (some ⟨w.heap.size,0,none⟩) 8 8) (w.alloc (.cells (qAo (List.replicate 8 Ty.nil)).toArray 153)):=by
 obtain ⟨i,hi,b,c,a⟩:=qEk;have:=run_make (P:=Tryz.prog) w 124 153 i _ Tryz.underlying124 hi b .i64 .i64 8 8 (by omega) (Int.le_refl _) (by rw [a];decide) (by decide);rw [c,show madeCells (tyV Ty.nil).cells (Int.toNat 8*4)=(qAo (List.replicate 8 Ty.nil)).toArray by kernel_rfl] at this;exact this
theorem xBq (w:World)(base:Nat)(a:base<=w.heap.size)(cs:List Value)(b:cs.length=32):(w.alloc (.cells cs.toArray 153)).ownsRow base 153 4 (.slice (some ⟨w.heap.size,0,none⟩) 8 8) 8 cs:=by
 have:=World.ownsRow_lit (base:=base) (e:=153) (size:=4) w cs.toArray 8 a (by decide) (by simp [b])
 simpa using this
end Go.Proofs.YtmdhljoicnommaaGreat
