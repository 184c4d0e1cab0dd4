/-
  GKit
  S10Nums
-/
import Derived.Test.YtmdhljoicnommaaGreatMS0
import Derived.Test.YtmdhljoicnommaaGreatMS2
import Derived.Test.YtmdhljoicnommaaGreatMS3
import Derived.Laws.AppendOwnNone
import Derived.ShutString
import Derived.ChangeOld
import Derived.JoinedCond
import Derived.WalkLawsBesides
namespace Go.Proofs.YtmdhljoicnommaaGreat
set_option maxHeartbeats 12800000
open Go.RowKit Go.ChangeShapes Go.WideShapes Go.ChangeAt
set_option linter.unusedVariables false
set_option maxRecDepth 100000
open Go.RowKit
theorem getD_mem (xs:List Int)(k:Nat)(h:k<xs.length):xs.getD k 0∈xs:=by
 simp [List.getD,h]
theorem one_cell (k:IntKind)(x:Int):∀ u∈[Value.int k x],u.oneCell'=true:=by intro u a;simp at a;subst a;rfl
theorem add_none (b off i:Nat):(⟨b,off,none⟩:Addr).add i=⟨b,off+i,none⟩:=by
 unfold Addr.add
 split
 ·simp_all
 ·simp
theorem wp_append_sees {P:Program}{w:World}{o:Oper}{a:Act}{K:Act->World->Prop}{Q:Exit->Act->World->Prop}(s x:Operand)(t:TypeId)(J:o.op=.call { callee:=.builtin .append,args:=#[s,x],argTypes:=#[t,t] })(base:Nat)(e:TypeId)(i:TypeInfo)(z:Value)(bytes:Nat)(I:P.underlying t=some (.slice e))(hi:P.info? e=some i)(U:i.zero=some z)(l:i.size=1)(B:i.bytes=bytes)(E:z.cells.size=1)(k:IntKind)(v:Value)(xs:List Int)(S:a.eval s=v)(c:w.ownsRow base e 1 v xs.length (xs.map (Value.int k)))(D:Value)(d:List Int)(O:a.eval x=D)(L:Sees k w D d)(F:xs.length+d.length<=maxLen)(f:(xs.length+d.length)*bytes<=219902325555200)(n:base<=w.heap.size)(h:∀ r g,g.ownsRow base e 1 r (xs++d).length ((xs++d).map (Value.int k))->w.grownBy g v.ownBlock->K (a.put o.dst r) g)(h8:bytes<=8:=by decide):o.wp P a w K Q:=by
 obtain ⟨R,cap,rfl,hl,hm,Z,hw,hc⟩:=L
 by_cases hne:d=[]
 ·subst hne
  cases R with
  | none =>
   obtain rfl:cap=0:=Z rfl;have G:=run_append_owned_none (P:=P) (w:=w) base t o.type e i 1 I hi v _ _ c;have Y:a.eval x=.slice none 0 0:=O;unfold Oper.wp
   simp [execOp,J,resolve,invoke,builtin,S,Y,G,Result.andThen]
   exact h v w (by simpa using c) ⟨rfl,rfl,rfl,Nat.le_refl _,fun _ _ _=>rfl⟩
  | some R =>
   refine wp_append_wide w s x t J base e i z 1 bytes I hi U l B E (by decide) v _ _ S c R 0 cap [] O rfl (by simp) (by simp) (by simpa using F) (by simpa using f) n ?_ h8;intro r g N M _;exact h r g (by simpa using N) M
 ·obtain ⟨b,off,rfl,a0,A⟩:=hc hne
  refine wp_append_wide w s x t J base e i z 1 bytes I hi U l B E (by decide) v _ _ S c ⟨b,off,none⟩ d.length cap (d.map (Value.int k)) O (by simp) ?_ ?_ F f n ?_ h8
  ·intro j u X;rw [List.getElem?_map] at X;obtain ⟨y,T,rfl⟩:=Option.map_eq_some_iff.1 X;have V:j<d.length:=(List.getElem?_eq_some_iff.1 T).1;have:=A j V;rw [add_none,this];simp [List.getD,T]
  ·intro u hu;obtain ⟨y,_,rfl⟩:=List.mem_map.1 hu
   rfl
  ·intro r g N M _;exact h r g (by simpa using N) M
theorem wpList_append_sees {P:Program}{w:World}{u:Array Oper}{f:List Oper}{o:Oper}{a:Act}{Q:Exit->Act->World->Prop}(B:o.guard=none)(s x:Operand)(t:TypeId)(J:o.op=.call { callee:=.builtin .append,args:=#[s,x],argTypes:=#[t,t] })(base:Nat)(e:TypeId)(i:TypeInfo)(z:Value)(bytes:Nat)(I:P.underlying t=some (.slice e))(hi:P.info? e=some i)(G:i.zero=some z)(l:i.size=1)(D:i.bytes=bytes)(E:z.cells.size=1)(k:IntKind)(v:Value)(xs:List Int)(M:a.eval s=v)(A:w.ownsRow base e 1 v xs.length (xs.map (Value.int k)))(c:Value)(b:List Int)(L:a.eval x=c)(y:Sees k w c b)(F:xs.length+b.length<=maxLen)(d:(xs.length+b.length)*bytes<=219902325555200)(n:base<=w.heap.size)(h:∀ r g,g.ownsRow base e 1 r (xs++b).length ((xs++b).map (Value.int k))->w.grownBy g v.ownBlock->wpList P u Q f (a.put o.dst r) g)(O:bytes<=8:=by decide):wpList P u Q (o :: f) a w :=
 wpList_plain B fun _ hK=>wp_append_sees s x t J base e i z bytes I hi G l D E k v xs M A c b L y F d n (fun r g K N=>hK _ _ (h r g K N)) O
def cutV (a:Option Addr) (l h m:Nat):Value:=.slice (if m=l then a else a.map (·.add l)) (h-l) (m-l)
theorem run_from {t e:TypeId}(d:Tryz.prog.underlying t=some (.slice e))(c:∀ w,(Go.sizeOf e).run Tryz.prog w=.ok 1 w)(a:Option Addr)(b cap i:Nat)(hi:i<=b)(w:World) :
  (Instr.slice t (.slice a b cap) (some (I4 i)) none none).run Tryz.prog w=.ok (cutV a i b cap) w:=by
 have h0:(i:Int)<=(b:Int):=by omega
 simp [Instr.slice,run_underlying d,Instr.sliceBounds,run_sliceBound,h0,c,cutV]
theorem run_upto {t e:TypeId}(d:Tryz.prog.underlying t=some (.slice e))(c:∀ w,(Go.sizeOf e).run Tryz.prog w=.ok 1 w)(a:Option Addr)(b cap i:Nat)(hi:i<=cap)(w:World) :
  (Instr.slice t (.slice a b cap) none (some (I4 i)) none).run Tryz.prog w=.ok (cutV a 0 i cap) w:=by
 have h0:(i:Int)<=(cap:Int):=by omega
 simp [Instr.slice,run_underlying d,Instr.sliceBounds,run_sliceBound,h0,c,cutV]
theorem Sees.cut {k:IntKind}{w:World}{a:Option Addr}{cap:Nat}{xs:List Int}(h:Sees k w (.slice a xs.length cap) xs)(l c m:Nat)(J:l<=c)(E:c<=xs.length)(hm:c<=m)(L:m<=cap):Sees k w (cutV a l c m) ((xs.take c).drop l):=by
 obtain ⟨s,g,u,M,K,G,y,D⟩:=h
 obtain ⟨rfl,_,rfl⟩:a=s/\xs.length=xs.length/\cap=g:=by injection u with z A r;exact ⟨z,A,r⟩
 have d:((xs.take c).drop l).length=c-l:=by simp;omega
 refine ⟨_,m-l,by rw [d];rfl,by omega,by omega,fun n=>?_,fun x B=>y x (List.mem_of_mem_take (List.mem_of_mem_drop B)),fun o=>?_⟩
 ·split at n
  ·omega
  ·have:a=none:=by simpa using n
   have:=G this;omega
 ·have I:0<c-l:=by
   rcases Nat.eq_zero_or_pos (c-l) with h0|h0
   ·exact absurd (List.eq_nil_of_length_eq_zero (by omega)) o
   ·exact h0
  obtain ⟨b,off,rfl,F,f⟩:=D (by intro e;subst e;simp at E;omega);refine ⟨b,off+l,?_,F,fun i hi=>?_⟩
  ·rw [if_neg (by omega)];simp [add_none]
  ·rw [Nat.add_assoc,f (l+i) (by omega)]
   congr 2
   rw [d] at hi;simp only [List.getD,List.getElem?_drop,List.getElem?_take];rw [if_pos (by omega)]
theorem bulk_lits {H:Type}(k:IntKind)(a:List Int):Rows.uptoBulkAll (lits (H:=H) k a)=a.length:=by
 induction a with
 | nil=>rfl
 | cons z r ih =>
  show Rows.uptoBulkAll (DataW.lit (.int k z) :: lits k r)=_
  rw [Rows.uptoBulkAll,ih]
  simp [Rows.uptoBulk];omega
theorem sees_open {H:Type}{enc:TypeId×Value->H}{W:World}{base:Nat}{t e:TypeId}{k:IntKind}{v:Value}{d:DataW H}{p:List MemPlace}(D:Tryz.prog.underlying t=some (.slice e))(he:Tryz.prog.underlying e=some (.int k))(I:Tryz.prog.cellsOf e=1)(z:Value.okWide Tryz.prog W .any base t v)(h:DataW.Trod enc Tryz.prog W 0 (fun _=>true) true t v d p):∃ xs,Sees k W v xs/\xs.length<Rows.uptoBulk d:=by
 obtain ⟨a,f,cap,rfl⟩:=okWide_slice D z
 have K:∀ x∈p,x.block<W.heap.size:=by obtain ⟨m,hm⟩:=h;exact DataW.trod_lt m _ _ _ hm
 obtain ⟨G,J⟩:=h
 rcases open_ints D he I J with ⟨g,r⟩|⟨x,l,c,s,g,_,M,hm,A,r,o,E⟩
 ·simp [Value.cells] at g r
  obtain ⟨rfl,rfl,rfl⟩:=g;obtain ⟨rfl,rfl⟩:=r;exact ⟨[],⟨none,0,rfl,by simp,by simp [maxLen],fun _=>rfl,by simp,fun h=>absurd rfl h⟩,by simp [Rows.uptoBulk]⟩
 ·simp [Value.cells] at g r
  obtain ⟨rfl,rfl,rfl⟩:=g;obtain ⟨rfl,rfl⟩:=r
  have A:s.length=cap:=by simpa using A
  have n:(s.take f).length=f:=by simp;omega
  refine ⟨s.take f,⟨some x,cap,by rw [n],by omega,hm,fun h=>by simp at h,fun y F=>E y (List.mem_of_mem_take F),fun B=>?_⟩,?_⟩
  ·have L:0<f:=by
    rcases Nat.eq_zero_or_pos f with h0|h0
    ·subst h0;exact absurd rfl B
    ·exact h0
   have h0:=o 0 (by omega);obtain ⟨b,off,w⟩:=x
   have u:w=none:=by simpa [Addr.add] using World.cell?_spot h0
   subst u;refine ⟨b,off,rfl,K (.cell b off) ?_,fun i hi=>?_⟩
   ·simp [MemPlace.row];omega
   ·have:=o i (by omega);rw [add_none] at this;rw [this]
    have:i<s.length:=by omega
    rw [n] at hi
    simp [List.getD,hi]
  ·simp only [Rows.uptoBulk,bulk_lits,n];omega
theorem lits_len {H:Type}(k:IntKind)(a:List Int):(lits (H:=H) k a).length=a.length:=by
 induction a with
 | nil=>rfl
 | cons z r ih =>
  show (DataW.lit (.int k z) :: lits k r).length=_
  rw [List.length_cons,ih,List.length_cons]
theorem slice_of_trod {H:Type}{enc:TypeId×Value->H}{W:World}{base d:Nat}{k:Nat->Bool}{f:Bool}{t e:TypeId}{c:Value}{x:DataW H×List MemPlace}(o:Tryz.prog.underlying t=some (.slice e))(h:DataW.trod enc Tryz.prog W base k f d t [c]=some x):∃ a len cap,c=.slice a len cap:=by
 rcases DataW.trod_slice o h with ⟨b,_⟩|⟨y,l,c',g,i,n,_,b,_⟩
 ·simp at b;exact ⟨_,_,_,b⟩
 ·simp at b;exact ⟨_,_,_,b⟩
theorem sees_open_sh {H:Type}{enc:TypeId×Value->H}{W:World}{t e:TypeId}{k:IntKind}{v:Value}{d:DataW H}{p:List MemPlace}(D:Tryz.prog.underlying t=some (.slice e))(he:Tryz.prog.underlying e=some (.int k))(K:Tryz.prog.cellsOf e=1)(F:∃ a f cap,v=.slice a f cap)(h:DataW.Trod enc Tryz.prog W 0 (fun _=>true) true t v d p):∃ xs,Sees k W v xs/\((d.weights Tryz.prog t).all (·<=reachBytes)=true->xs.length*Tryz.prog.bytesOf e<=reachBytes):=by
 obtain ⟨a,f,cap,rfl⟩:=F
 have M:∀ x∈p,x.block<W.heap.size:=by obtain ⟨m,hm⟩:=h;exact DataW.trod_lt m _ _ _ hm
 obtain ⟨J,L⟩:=h
 rcases open_ints D he K L with ⟨n,s⟩|⟨x,l,c,u,n,_,O,hm,A,s,r,G⟩
 ·simp [Value.cells] at n s
  obtain ⟨rfl,rfl,rfl⟩:=n;obtain ⟨rfl,rfl⟩:=s;exact ⟨[],⟨none,0,rfl,by simp,by simp [maxLen],fun _=>rfl,by simp,fun h=>absurd rfl h⟩,by simp⟩
 ·simp [Value.cells] at n s
  obtain ⟨rfl,rfl,rfl⟩:=n;obtain ⟨rfl,rfl⟩:=s
  have A:u.length=cap:=by simpa using A
  have g:(u.take f).length=f:=by simp;omega
  refine ⟨u.take f,⟨some x,cap,by rw [g],by omega,hm,fun h=>by simp at h,fun y I=>G y (List.mem_of_mem_take I),fun B=>?_⟩,?_⟩
  ·have N:0<f:=by
    rcases Nat.eq_zero_or_pos f with h0|h0
    ·subst h0;exact absurd rfl B
    ·exact h0
   have h0:=r 0 (by omega);obtain ⟨b,off,z⟩:=x
   have w:z=none:=by simpa [Addr.add] using World.cell?_spot h0
   subst w;refine ⟨b,off,rfl,M (.cell b off) ?_,fun i hi=>?_⟩
   ·simp [MemPlace.row];omega
   ·have:=r i (by omega);rw [add_none] at this;rw [this]
    have:i<u.length:=by omega
    rw [g] at hi
    simp [List.getD,hi]
  ·intro o;rw [DataW.weights,D] at o;simp only [List.all_cons,Bool.and_eq_true,decide_eq_true_eq] at o;have E:=o.1;rw [lits_len,lits_len,g] at E;rw [g];exact Nat.le_trans (Nat.mul_le_mul_right _ (Nat.le_add_right _ _)) E
end Go.Proofs.YtmdhljoicnommaaGreat
