
/-
 Rows of states in memory: a row of the call's own,each of its places a row of types of its own,or none.
-/
import Derived.Test.YtmdhljoicnommaaGreatMS44
import Derived.Laws.MakeOwn
namespace Go.Proofs.YtmdhljoicnommaaGreat
set_option maxHeartbeats 12800000
open Go.RowKit
set_option linter.unusedVariables false
set_option linter.unusedSimpArgs false
set_option maxRecDepth 100000

abbrev stN:Value:=.slice none 0 0
theorem own_two {w:World}{B o:Nat}{e d:TypeId}{z y:Nat}{v f:Value}{n F:Nat}{xs b:List Value}(h:w.ownsRow B e z v n xs)(r:w.ownsRow o d y f F b)(c:e≠d):v.ownBlock=none∨v.ownBlock≠f.ownBlock:=by
 rcases h with ⟨_,⟨rfl,_⟩|⟨g,cap,G,rfl,_,u,_⟩⟩
 ·exact .inl rfl
 rcases r with ⟨_,⟨rfl,_⟩|⟨i,k,D,rfl,_,a,_⟩⟩
 ·exact .inr (by simp [Value.ownBlock])
 ·refine .inr fun l=>?_
  have E:g=i:=by simpa [Value.ownBlock] using l
  subst E;rw [u] at a;injection a with s;injection s with I A;exact c A
structure SsW (B:Nat) (w:World) (v:Value) (S:List St) (vs:List Value):Prop where
 len:vs.length=S.length
 row:w.ownsRow B 124 1 v S.length vs
 each:∀ i,i<S.length->w.ownsRow B 153 4 (vs.getD i stN) (S.getD i []).length (flatT (S.getD i []))
def Ss (B:Nat) (w:World) (v:Value) (S:List St):Prop:=∃ vs,SsW B w v S vs
theorem SsW.below {B d:Nat}{w a:World}{v:Value}{S:List St}{vs:List Value}(h:SsW B w v S vs)(c:Below d w a)(b:w.heap.size<=d):SsW B a v S vs :=
 ⟨h.len,qBa h.row c b,fun i hi=>qBa (h.each i hi) c b⟩
theorem Ss.below {B b:Nat}{w a:World}{v:Value}{S:List St}(h:Ss B w v S)(c:Below b w a)(d:w.heap.size<=b):Ss B a v S:=by
 obtain ⟨vs,h⟩:=h;exact ⟨vs,h.below c d⟩
theorem Ss.base {B b:Nat}{w:World}{v:Value}{S:List St}(h:Ss B w v S)(a:b<=B):Ss b w v S:=by
 obtain ⟨vs,h⟩:=h;exact ⟨vs,h.len,qAx h.row a,fun i hi=>qAx (h.each i hi) a⟩
theorem Ss.nil (B:Nat)(w:World):Ss B w stN []:=⟨[],rfl,World.ownsRow_nil _ _ _ _,fun i hi=>by simp at hi⟩
theorem SsW.shape {B:Nat}{w:World}{v:Value}{S:List St}{vs:List Value}(h:SsW B w v S vs):∃ a c,v=.slice a S.length c:=own_shapeT h.row
theorem Ss.shape {B:Nat}{w:World}{v:Value}{S:List St}(h:Ss B w v S):∃ a c,v=.slice a S.length c:=by
 obtain ⟨vs,h⟩:=h;exact h.shape
theorem Ss.get {B:Nat}{w:World}{v:Value}{S:List St}(h:Ss B w v S){i:Nat}(hi:i<S.length):∃ g c a d,v=.slice (some ⟨g,0,none⟩) S.length c/\g<w.heap.size/\S.length<=c/\w.cell? ⟨g,i,none⟩=some (.slice a (S.getD i []).length d)/\SeesT w (.slice a (S.getD i []).length d) (S.getD i [])/\w.ownsRow B 153 4 (.slice a (S.getD i []).length d) (S.getD i []).length (flatT (S.getD i [])):=by
 obtain ⟨vs,h⟩:=h;have k:=h.row;have he:=h.each i hi;obtain ⟨a,d,l⟩:=own_shapeT he
 rcases id k with ⟨y,⟨_,h0⟩|⟨g,c,s,rfl,u,n,o,_⟩⟩
 ·omega
 ·have b:=k.cellAt i (by omega)
  have f:i<vs.length:=by rw [h.len];exact hi
  have r:vs.getD i stN=vs[i]:=by simp [List.getD,List.getElem?_eq_getElem f]
  rw [List.getElem?_eq_getElem f,<- r,l] at b;rw [l] at he;exact ⟨g,c,a,d,rfl,(Array.getElem?_eq_some_iff.1 n).1,o,b,qCs he,he⟩
theorem SsW.push {B:Nat}{w a:World}{v g u:Value}{S:List St}{vs:List Value}{s:St}{o:Obj}(h:SsW B w v S vs)(y:w.ownsRow B 153 4 u s.length (flatT s))(d:a.ownsRow B 124 1 g (S.length+1) (vs++[u]))(r:(w.alloc o).grownBy a v.ownBlock):SsW B a g (S++[s]) (vs++[u]):=by
 have k:∀ {x:Value} {n:Nat} {l:List Value},w.ownsRow B 153 4 x n l->a.ownsRow B 153 4 x n l:=fun {x n l} hx=>(hx.alloc o).kept r (own_two hx h.row (by decide))
 refine ⟨by simp [h.len],by simpa using d,fun i hi=>?_⟩
 by_cases hl:i<S.length
 ·have b:(vs++[u]).getD i stN=vs.getD i stN:=by simp [List.getD,List.getElem?_append_left (show i<vs.length by rw [h.len];exact hl)]
  have c:(S++[s]).getD i []=S.getD i []:=by simp [List.getD,List.getElem?_append_left hl]
  rw [b,c];exact k (h.each i hl)
 ·have f:i=S.length:=by simp at hi;omega
  subst f
  have b:(vs++[u]).getD S.length stN=u:=by rw [<- h.len];simp [List.getD]
  have c:(S++[s]).getD S.length []=s:=by simp [List.getD]
  rw [b,c];exact k y
theorem Tryz.infoSt:(Tryz.prog.info? 124).map (fun i=>(i.zero,i.size,i.bytes))=some (some (.slice none 0 0),1,24):=by kernel_rfl
theorem one_sl (u:Value)(a:Option Addr)(n c:Nat)(h:u=.slice a n c):∀ x∈[u],x.oneCell'=true:=by intro x b;simp at b;subst b;subst h;rfl
theorem one_lit (w:World)(g:Nat)(b:g=w.heap.size)(u:Value)(t:TypeId):∀ j x,[u][j]? = some x->(w.alloc (.cells #[u] t)).cell? ((⟨g,0,none⟩:Addr).add j)=some x:=by
 intro j x a;subst b
 cases j with
 | zero=>simp at a;subst a;simp [Addr.add]
 | succ j=>simp at a
theorem run_make8 (w:World):(Instr.makeSlice 124 (I4 8) (I4 8)).run Tryz.prog w=.ok (.slice (some ⟨w.heap.size,0,none⟩) 8 8) (w.alloc (.cells (flatT (List.replicate 8 Ty.nil)).toArray 153)):=by
 obtain ⟨i,hi,c,b,a⟩:=qCb;have:=run_make (P:=Tryz.prog) w 124 153 i _ Tryz.underlying124 hi c .i64 .i64 8 8 (by omega) (Int.le_refl _) (by rw [a];decide) (by decide);rw [b,show madeCells (tyV Ty.nil).cells (Int.toNat 8*4)=(flatT (List.replicate 8 Ty.nil)).toArray by kernel_rfl] at this;exact this
theorem own8 (w:World)(base:Nat)(b:base<=w.heap.size)(cs:List Value)(a:cs.length=32):(w.alloc (.cells cs.toArray 153)).ownsRow base 153 4 (.slice (some ⟨w.heap.size,0,none⟩) 8 8) 8 cs:=by
 have:=World.ownsRow_lit (base:=base) (e:=153) (size:=4) w cs.toArray 8 b (by decide) (by simp [a])
 simpa using this
end Go.Proofs.YtmdhljoicnommaaGreat
