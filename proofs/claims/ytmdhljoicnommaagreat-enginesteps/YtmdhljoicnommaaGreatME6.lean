/-
  GKit
  S10Nums
-/
import Derived.Test.YtmdhljoicnommaaGreatME0
import Derived.Test.YtmdhljoicnommaaGreatME2
import Derived.Test.YtmdhljoicnommaaGreatME3
import Derived.Laws.AppendOwnNone
import Derived.ShutString
import Derived.ChangeOld
import Derived.JoinedCond
import Derived.WalkLawsBesides
namespace Go.Proofs.YtmdhljoicnommaaGreat
set_option maxHeartbeats 12800000
open Go.RowKit Go.ChangeShapes Go.WideShapes Go.ChangeAt
set_option linter.unusedVariables false
set_option maxRecDepth 100000
open Go.RowKit
theorem qQx (xs:List Int)(k:Nat)(h:k<xs.length):xs.getD k 0∈xs:=by
 simp [List.getD,h]
theorem yTh (k:IntKind)(x:Int):∀ u∈[Value.int k x],u.oneCell'=true:=by intro u a;simp at a;subst a;rfl
theorem qIq (b off i:Nat):(⟨b,off,none⟩:Addr).add i=⟨b,off+i,none⟩:=by
 unfold Addr.add
 split
 ·simp_all
 ·simp
theorem qWq {P:Program}{w:World}{o:Oper}{a:Act}{K:Act->World->Prop}{Q:Exit->Act->World->Prop}(s x:Operand)(t:TypeId)(J:o.op=.call { callee:=.builtin .append,args:=#[s,x],argTypes:=#[t,t] })(base:Nat)(e:TypeId)(i:TypeInfo)(z:Value)(bytes:Nat)(N:P.underlying t=some (.slice e))(hi:P.info? e=some i)(Z:i.zero=some z)(n:i.size=1)(D:i.bytes=bytes)(F:z.cells.size=1)(k:IntKind)(v:Value)(xs:List Int)(G:a.eval s=v)(c:w.ownsRow base e 1 v xs.length (xs.map (Value.int k)))(E:Value)(d:List Int)(O:a.eval x=E)(L:Sees k w E d)(B:xs.length+d.length<=maxLen)(f:(xs.length+d.length)*bytes<=219902325555200)(l:base<=w.heap.size)(h:∀ r g,g.ownsRow base e 1 r (xs++d).length ((xs++d).map (Value.int k))->w.grownBy g v.ownBlock->K (a.put o.dst r) g)(U:bytes<=8:=by decide):o.wp P a w K Q:=by
 obtain ⟨S,cap,rfl,hl,hm,V,hw,hc⟩:=L
 by_cases hne:d=[]
 ·subst hne
  cases S with
  | none =>
   obtain rfl:cap=0:=V rfl;have I:=run_append_owned_none (P:=P) (w:=w) base t o.type e i 1 N hi v _ _ c;have Y:a.eval x=.slice none 0 0:=O;unfold Oper.wp
   simp [execOp,J,resolve,invoke,builtin,G,Y,I,Result.andThen]
   exact h v w (by simpa using c) ⟨rfl,rfl,rfl,Nat.le_refl _,fun _ _ _=>rfl⟩
  | some S =>
   refine qPb w s x t J base e i z 1 bytes N hi Z n D F (by decide) v _ _ G c S 0 cap [] O rfl (by simp) (by simp) (by simpa using B) (by simpa using f) l ?_ U;intro r g R M _;exact h r g (by simpa using R) M
 ·obtain ⟨b,off,rfl,a0,A⟩:=hc hne
  refine qPb w s x t J base e i z 1 bytes N hi Z n D F (by decide) v _ _ G c ⟨b,off,none⟩ d.length cap (d.map (Value.int k)) O (by simp) ?_ ?_ B f l ?_ U
  ·intro j u hj;rw [List.getElem?_map] at hj;obtain ⟨y,T,rfl⟩:=Option.map_eq_some_iff.1 hj;have X:j<d.length:=(List.getElem?_eq_some_iff.1 T).1;have:=A j X;rw [qIq,this];simp [List.getD,T]
  ·intro u hu;obtain ⟨y,_,rfl⟩:=List.mem_map.1 hu
   rfl
  ·intro r g R M _;exact h r g (by simpa using R) M
theorem qMh {P:Program}{w:World}{u:Array Oper}{c:List Oper}{o:Oper}{a:Act}{Q:Exit->Act->World->Prop}(F:o.guard=none)(s x:Operand)(t:TypeId)(J:o.op=.call { callee:=.builtin .append,args:=#[s,x],argTypes:=#[t,t] })(base:Nat)(e:TypeId)(i:TypeInfo)(z:Value)(bytes:Nat)(L:P.underlying t=some (.slice e))(hi:P.info? e=some i)(N:i.zero=some z)(n:i.size=1)(D:i.bytes=bytes)(E:z.cells.size=1)(k:IntKind)(v:Value)(xs:List Int)(G:a.eval s=v)(y:w.ownsRow base e 1 v xs.length (xs.map (Value.int k)))(g:Value)(b:List Int)(M:a.eval x=g)(A:Sees k w g b)(B:xs.length+b.length<=maxLen)(d:(xs.length+b.length)*bytes<=219902325555200)(l:base<=w.heap.size)(h:∀ r f,f.ownsRow base e 1 r (xs++b).length ((xs++b).map (Value.int k))->w.grownBy f v.ownBlock->wpList P u Q c (a.put o.dst r) f)(I:bytes<=8:=by decide):wpList P u Q (o :: c) a w :=
 wpList_plain F fun _ hK=>qWq s x t J base e i z bytes L hi N n D E k v xs G y g b M A B d l (fun r f K O=>hK _ _ (h r f K O)) I
def qWg (a:Option Addr) (l h m:Nat):Value:=.slice (if m=l then a else a.map (·.add l)) (h-l) (m-l)
theorem xCs {t e:TypeId}(d:Tryz.prog.underlying t=some (.slice e))(c:∀ w,(Go.sizeOf e).run Tryz.prog w=.ok 1 w)(a:Option Addr)(b cap i:Nat)(hi:i<=b)(w:World) :
  (Instr.slice t (.slice a b cap) (some (I4 i)) none none).run Tryz.prog w=.ok (qWg a i b cap) w:=by
 have h0:(i:Int)<=(b:Int):=by omega
 simp [Instr.slice,run_underlying d,Instr.sliceBounds,run_sliceBound,h0,c,qWg]
theorem yWh {t e:TypeId}(d:Tryz.prog.underlying t=some (.slice e))(c:∀ w,(Go.sizeOf e).run Tryz.prog w=.ok 1 w)(a:Option Addr)(b cap i:Nat)(hi:i<=cap)(w:World) :
  (Instr.slice t (.slice a b cap) none (some (I4 i)) none).run Tryz.prog w=.ok (qWg a 0 i cap) w:=by
 have h0:(i:Int)<=(cap:Int):=by omega
 simp [Instr.slice,run_underlying d,Instr.sliceBounds,run_sliceBound,h0,c,qWg]
theorem Sees.cut {k:IntKind}{w:World}{a:Option Addr}{cap:Nat}{xs:List Int}(h:Sees k w (.slice a xs.length cap) xs)(l c m:Nat)(L:l<=c)(E:c<=xs.length)(hm:c<=m)(J:m<=cap):Sees k w (qWg a l c m) ((xs.take c).drop l):=by
 obtain ⟨y,g,s,M,K,G,D,z⟩:=h
 obtain ⟨rfl,_,rfl⟩:a=y/\xs.length=xs.length/\cap=g:=by injection s with F u A;exact ⟨F,u,A⟩
 have d:((xs.take c).drop l).length=c-l:=by simp;omega
 refine ⟨_,m-l,by rw [d];rfl,by omega,by omega,fun o=>?_,fun x B=>D x (List.mem_of_mem_take (List.mem_of_mem_drop B)),fun n=>?_⟩
 ·split at o
  ·omega
  ·have:a=none:=by simpa using o
   have:=G this;omega
 ·have I:0<c-l:=by
   rcases Nat.eq_zero_or_pos (c-l) with h0|h0
   ·exact absurd (List.eq_nil_of_length_eq_zero (by omega)) n
   ·exact h0
  obtain ⟨b,off,rfl,r,f⟩:=z (by intro e;subst e;simp at E;omega);refine ⟨b,off+l,?_,r,fun i hi=>?_⟩
  ·rw [if_neg (by omega)];simp [qIq]
  ·rw [Nat.add_assoc,f (l+i) (by omega)]
   congr 2
   rw [d] at hi;simp only [List.getD,List.getElem?_drop,List.getElem?_take];rw [if_pos (by omega)]
theorem yPs {H:Type}(k:IntKind)(a:List Int):Rows.uptoBulkAll (lits (H:=H) k a)=a.length:=by
 induction a with
 | nil=>rfl
 | cons z r ih =>
  show Rows.uptoBulkAll (DataW.lit (.int k z) :: lits k r)=_
  rw [Rows.uptoBulkAll,ih]
  simp [Rows.uptoBulk];omega
theorem xCp {H:Type}{enc:TypeId×Value->H}{W:World}{base:Nat}{t e:TypeId}{k:IntKind}{v:Value}{d:DataW H}{p:List MemPlace}(B:Tryz.prog.underlying t=some (.slice e))(he:Tryz.prog.underlying e=some (.int k))(J:Tryz.prog.cellsOf e=1)(E:Value.okWide Tryz.prog W .any base t v)(h:DataW.Trod enc Tryz.prog W 0 (fun _=>true) true t v d p):∃ xs,Sees k W v xs/\xs.length<Rows.uptoBulk d:=by
 obtain ⟨a,f,cap,rfl⟩:=okWide_slice B E
 have I:∀ x∈p,x.block<W.heap.size:=by obtain ⟨m,hm⟩:=h;exact DataW.trod_lt m _ _ _ hm
 obtain ⟨G,K⟩:=h
 rcases open_ints B he J K with ⟨g,r⟩|⟨x,l,c,u,g,_,M,hm,D,r,o,A⟩
 ·simp [Value.cells] at g r
  obtain ⟨rfl,rfl,rfl⟩:=g;obtain ⟨rfl,rfl⟩:=r;exact ⟨[],⟨none,0,rfl,by simp,by simp [maxLen],fun _=>rfl,by simp,fun h=>absurd rfl h⟩,by simp [Rows.uptoBulk]⟩
 ·simp [Value.cells] at g r
  obtain ⟨rfl,rfl,rfl⟩:=g;obtain ⟨rfl,rfl⟩:=r
  have D:u.length=cap:=by simpa using D
  have n:(u.take f).length=f:=by simp;omega
  refine ⟨u.take f,⟨some x,cap,by rw [n],by omega,hm,fun h=>by simp at h,fun y F=>A y (List.mem_of_mem_take F),fun z=>?_⟩,?_⟩
  ·have L:0<f:=by
    rcases Nat.eq_zero_or_pos f with h0|h0
    ·subst h0;exact absurd rfl z
    ·exact h0
   have h0:=o 0 (by omega);obtain ⟨b,off,w⟩:=x
   have s:w=none:=by simpa [Addr.add] using World.cell?_spot h0
   subst s;refine ⟨b,off,rfl,I (.cell b off) ?_,fun i hi=>?_⟩
   ·simp [MemPlace.row];omega
   ·have:=o i (by omega);rw [qIq] at this;rw [this]
    have:i<u.length:=by omega
    rw [n] at hi
    simp [List.getD,hi]
  ·simp only [Rows.uptoBulk,yPs,n];omega
theorem yBk {H:Type}(k:IntKind)(a:List Int):(lits (H:=H) k a).length=a.length:=by
 induction a with
 | nil=>rfl
 | cons z r ih =>
  show (DataW.lit (.int k z) :: lits k r).length=_
  rw [List.length_cons,ih,List.length_cons]
theorem qMv {H:Type}{enc:TypeId×Value->H}{W:World}{base d:Nat}{i:Nat->Bool}{f:Bool}{t e:TypeId}{c:Value}{x:DataW H×List MemPlace}(o:Tryz.prog.underlying t=some (.slice e))(h:DataW.trod enc Tryz.prog W base i f d t [c]=some x):∃ a len cap,c=.slice a len cap:=by
 rcases DataW.trod_slice o h with ⟨b,_⟩|⟨y,l,c',g,k,n,_,b,_⟩
 ·simp at b;exact ⟨_,_,_,b⟩
 ·simp at b;exact ⟨_,_,_,b⟩
theorem yCt {H:Type}{enc:TypeId×Value->H}{W:World}{t e:TypeId}{k:IntKind}{v:Value}{d:DataW H}{p:List MemPlace}(D:Tryz.prog.underlying t=some (.slice e))(he:Tryz.prog.underlying e=some (.int k))(L:Tryz.prog.cellsOf e=1)(G:∃ a f cap,v=.slice a f cap)(h:DataW.Trod enc Tryz.prog W 0 (fun _=>true) true t v d p):∃ xs,Sees k W v xs/\((d.weights Tryz.prog t).all (·<=reachBytes)=true->xs.length*Tryz.prog.bytesOf e<=reachBytes):=by
 obtain ⟨a,f,cap,rfl⟩:=G
 have K:∀ x∈p,x.block<W.heap.size:=by obtain ⟨m,hm⟩:=h;exact DataW.trod_lt m _ _ _ hm
 obtain ⟨J,M⟩:=h
 rcases open_ints D he L M with ⟨n,s⟩|⟨x,l,c,w,n,_,O,hm,F,s,r,B⟩
 ·simp [Value.cells] at n s
  obtain ⟨rfl,rfl,rfl⟩:=n;obtain ⟨rfl,rfl⟩:=s;exact ⟨[],⟨none,0,rfl,by simp,by simp [maxLen],fun _=>rfl,by simp,fun h=>absurd rfl h⟩,by simp⟩
 ·simp [Value.cells] at n s
  obtain ⟨rfl,rfl,rfl⟩:=n;obtain ⟨rfl,rfl⟩:=s
  have F:w.length=cap:=by simpa using F
  have g:(w.take f).length=f:=by simp;omega
  refine ⟨w.take f,⟨some x,cap,by rw [g],by omega,hm,fun h=>by simp at h,fun y I=>B y (List.mem_of_mem_take I),fun A=>?_⟩,?_⟩
  ·have N:0<f:=by
    rcases Nat.eq_zero_or_pos f with h0|h0
    ·subst h0;exact absurd rfl A
    ·exact h0
   have h0:=r 0 (by omega);obtain ⟨b,off,z⟩:=x
   have u:z=none:=by simpa [Addr.add] using World.cell?_spot h0
   subst u;refine ⟨b,off,rfl,K (.cell b off) ?_,fun i hi=>?_⟩
   ·simp [MemPlace.row];omega
   ·have:=r i (by omega);rw [qIq] at this;rw [this]
    have:i<w.length:=by omega
    rw [g] at hi
    simp [List.getD,hi]
  ·intro o;rw [DataW.weights,D] at o;simp only [List.all_cons,Bool.and_eq_true,decide_eq_true_eq] at o;have E:=o.1;rw [yBk,yBk,g] at E;rw [g];exact Nat.le_trans (Nat.mul_le_mul_right _ (Nat.le_add_right _ _)) E
end Go.Proofs.YtmdhljoicnommaaGreat
