/-
  J9Plain
  E11Mc
  J9Made
  JJoin
-/
import Derived.Test.YtmdhljoicnommaaGreatME12
import Derived.Test.YtmdhljoicnommaaGreatME19
namespace Go.Proofs.YtmdhljoicnommaaGreat
set_option maxHeartbeats 12800000
set_option linter.unusedVariables false
set_option linter.unusedSimpArgs false
abbrev St:Type:=List Ty
def qHk (lo hi:Int):Ty:=⟨1,lo,hi,0⟩
def qEe:Ty:=⟨1,0,18446744073709551615,0⟩
def qGt (a b:Ty):Bool:=if b.k=0 then true else if a.k≠b.k then false else if b.k=1 then qDs a.lo a.hi b.lo b.hi else decide (a.m=b.m)
def qFc (x t:Ty):Bool:=decide (t.k=x.k) && !(decide (t.k=2)&&decide (t.m≠x.m))
def qCm (l:List Ty):List (Int×Int):=l.map fun t=>(t.lo,t.hi)
def qEn (l:List Ty):Ty :=
 if l.all (qFc (l.getD 0 Ty.nil))=true then (if (l.getD 0 Ty.nil).k=1 then qHk (qDe (qCm l)).1 (qDe (qCm l)).2 else l.getD 0 Ty.nil) else Ty.nil
def u64 (n:Int):Int:=n%18446744073709551616
def qBg (s:St) (r:Int):Ty:=s.getD r.toNat Ty.nil
def qBa (i:In) (s:St):Ty:=if i.b=8 then qHk (u64 i.imm) (u64 i.imm) else qBg s i.b
def In.src (i:In):Bool:=qCv i.op i.d i.a i.b i.imm
def In.wr (i:In):Int×Bool:=qDa i.op i.d i.a i.b i.imm
def qJe (i:In) (s:St):Ty:=if i.src=true then qBa i s else Ty.nil
def qIx (s head:St):Bool:=(List.range 8).all fun r=>qGt (s.getD r Ty.nil) (head.getD r Ty.nil)
def qEc (nm:Nat) (i:In) (s head:St):Int :=
 if i.op=0 then (if (qJe i s).k=0 then 33 else 0)
 else if i.op=13∨i.op=15 then 0
 else if i.op=14 then (if (nm:Int)<=i.imm then 35 else 0)
 else if i.op=21 then qDr i.imm ((s.drop 1).take (qEa i.imm).length)
 else if i.op=11 then (if (qJe i s).k≠1 then 33 else if 15<(qJe i s).hi then 35 else 0)
 else if i.op=20 then (if (qBg s i.a).k≠1 then 33 else if qIx s head=true then 0 else 33)
 else if i.op=22 then (if (qBg s i.a).k≠1 then 33 else 0)
 else if (qBg s i.a).k≠1∨(qJe i s).k≠1 then 33
 else if i.op=12/\15<(qJe i s).hi then 35 else 0
def doT (op:Int) (a b:Ty):Ty:=qHk ((doR op a.lo a.hi b.lo b.hi).getD (0,0)).1 ((doR op a.lo a.hi b.lo b.hi).getD (0,0)).2
def qBp (i:In) (s:St) (holds:Bool):Option St :=
 if i.op=0 then some (s.set i.d.toNat (qBa i s))
 else if qAv i.op=true then some (s.set i.d.toNat (doT i.op (qBg s i.a) (qBa i s)))
 else if i.op=11∨i.op=13 then some (s.set i.d.toNat qEe)
 else if i.op=14 then some (s.set i.d.toNat ⟨2,0,0,i.imm⟩)
 else if i.op=21 then some (s.set 0 (qCs i.imm).1)
 else if qBw i.op=true then
  match qDb i.op (qBg s i.a).lo (qBg s i.a).hi (qBa i s).lo (qBa i s).hi holds with
  | none=>none
  | some p=>some (s.set i.a.toNat (qHk p.1 p.2))
 else some s
def qHr (xs:List In) (known:List St) (p q:Nat):List St :=
 if (known.getD q []).length=0 then [] else
  (if ((nth xs q).leads&&decide ((q:Int)+(nth xs q).far=p))=true then (qBp (nth xs q) (known.getD q []) true).toList else []) ++
  (if ((nth xs q).on&&decide (q+1=p))=true then (qBp (nth xs q) (known.getD q []) false).toList else [])
def qAy (xs:List In) (known:List St) (p j:Nat):List St:=(if p=0 then [List.replicate 8 Ty.nil] else [])++(List.range j).flatMap (qHr xs known p)
def qKg (xs:List In) (s:St) (q:Nat):St :=
 if (nth xs q).wr.2=true then
  (if (qBg s (nth xs q).wr.1).k=1 then s.set (nth xs q).wr.1.toNat qEe else if (qBg s (nth xs q).wr.1).k=2 then s.set (nth xs q).wr.1.toNat Ty.nil else s)
 else s
def qJc (xs:List In) (s:St) (p:Nat):Nat->St
 | 0=>s
 | n+1=>qKg xs (qJc xs s p n) (p+n)
def qWb (xs:List In) (p l:Nat):Bool:=decide ((nth xs l).op=20)&&decide ((l:Int)-(nth xs l).d=p)
def qFd (xs:List In) (p:Nat) (s:St):Nat->St
 | 0=>s
 | l+1=>if qWb xs p l=true then qJc xs (qFd xs p s l) p (l+1-p) else qFd xs p s l
def qDp (l:List St) (n:Nat):St:=(List.range n).map fun r=>qEn (l.map fun s=>s.getD r Ty.nil)
def atJ (xs:List In) (known:List St) (p:Nat):St :=
 if (qAy xs known p p).length=0 then [] else qFd xs p (qDp (qAy xs known p p) 8) xs.length
def qQa (xs:List In) (known:List St) (s:St) (p:Nat):St:=if (nth xs p).op=20 then (known++[s]).getD ((p:Int)-(nth xs p).d).toNat [] else s
def qLq (xs:List In) (nm:Nat) (known:List St) (s:St) (p:Nat):Int:=if s.length=0 then 0 else qEc nm (nth xs p) s (qQa xs known s p)
def qFh (xs:List In) (nm:Nat):Nat->Except (Int×Int) (List St)
 | 0=>.ok []
 | j+1=>match qFh xs nm j with
  | .error e=>.error e
  | .ok known=>if qLq xs nm known (atJ xs known j) j=0 then .ok (known++[atJ xs known j]) else .error (j,qLq xs nm known (atJ xs known j) j)
def qGa (ms:List Int):Bool:=decide (ms.length<=4)&&((List.range ms.length).all fun i=>decide (0<=ms.getD i 0)&&decide (ms.getD i 0<=3)&&((List.range i).all fun k=>decide (ms.getD k 0≠ms.getD i 0)))
def qWv (ms:List Int) (xs:List In):List St×Int×Int :=
 if qGa ms=false then ([],0,2) else if (qCh xs).2≠0 then ([],(qCh xs).1,(qCh xs).2) else
 match qFh xs ms.length xs.length with
 | .error e=>([],e.1,e.2)
 | .ok known=>(known,0,0)

def Made (nm:Nat) (t:Ty):Prop:=(t.k=0/\t.lo=0/\t.hi=0/\t.m=0)∨(t.k=1/\0<=t.lo/\t.lo<=t.hi/\t.hi<=18446744073709551615/\t.m=0)∨(t.k=2/\t.lo=0/\t.hi=0/\0<=t.m/\t.m<nm)
def Made8 (nm:Nat) (s:St):Prop:=s.length=8/\∀ t∈s,Made nm t
theorem qLy (nm:Nat):Made nm Ty.nil:=.inl ⟨rfl,rfl,rfl,rfl⟩
theorem qRr (nm:Nat):Made nm qEe:=.inr (.inl ⟨rfl,by decide,by decide,by decide,rfl⟩)
theorem qNq {nm:Nat}{lo hi:Int}(h0:0<=lo)(b:lo<=hi)(a:hi<=18446744073709551615):Made nm (qHk lo hi):=.inr (.inl ⟨rfl,h0,b,a,rfl⟩)
theorem Made.ends {nm:Nat}{t:Ty}(h:Made nm t):(0<=t.lo/\t.lo<=18446744073709551615)/\(0<=t.hi/\t.hi<=18446744073709551615):=by
 rcases h with h|h|h<;>omega
theorem Made8.get {nm:Nat}{s:St}(h:Made8 nm s){r:Nat}(a:r<8):Made nm (s.getD r Ty.nil):=by
 have:r<s.length:=by rw [h.1];exact a
 rw [List.getD_eq_getElem?_getD,List.getElem?_eq_getElem this];exact h.2 _ (List.getElem_mem this)
theorem Made8.reg {nm:Nat}{s:St}(h:Made8 nm s){r:Int}(a:0<=r/\r<=7):Made nm (qBg s r):=h.get (by omega)
theorem Made8.set {nm:Nat}{s:St}(h:Made8 nm s)(r:Nat){t:Ty}(b:Made nm t):Made8 nm (s.set r t):=by
 refine ⟨by rw [List.length_set];exact h.1,fun u c=>?_⟩
 rcases List.mem_or_eq_of_mem_set c with a|a
 ·exact h.2 u a
 ·rw [a];exact b
theorem qHp (nm:Nat):Made8 nm (List.replicate 8 Ty.nil):=⟨rfl,fun t a=>by rw [List.eq_of_mem_replicate a];exact qLy nm⟩
theorem qRk (n:Int):0<=u64 n/\u64 n<=18446744073709551615:=by unfold u64;omega
theorem qJh {nm:Nat}{i:In}{s:St}(h:Made8 nm s)(a:i.b=8∨(0<=i.b/\i.b<=7)):Made nm (qBa i s):=by
 unfold qBa
 by_cases h8:i.b=8
 ·rw [if_pos h8];exact qNq (qRk _).1 (Int.le_refl _) (qRk _).2
 ·rw [if_neg h8];exact h.reg (by omega)
theorem yJd {nm:Nat}{xs:List In}{s:St}(h:Made8 nm s)(q:Nat):Made8 nm (qKg xs s q):=by
 unfold qKg
 split
 ·split
  ·exact h.set _ (qRr nm)
  ·split
   ·exact h.set _ (qLy nm)
   ·exact h
 ·exact h
theorem qKz {nm:Nat}{xs:List In}{s:St}(h:Made8 nm s)(p:Nat):∀ n,Made8 nm (qJc xs s p n)
 | 0=>h
 | n+1=>yJd (qKz h p n) _
theorem qHq {nm:Nat}{xs:List In}{s:St}(h:Made8 nm s)(p:Nat):∀ l,Made8 nm (qFd xs p s l)
 | 0=>h
 | l+1=>by
  unfold qFd
  split
  ·exact qKz (qHq h p l) p _
  ·exact qHq h p l
theorem xAf:∀ {l:List Int}{x:Int},x∈l->x<=qTv l:=by
 intro l x c
 cases l with
 | nil=>cases c
 | cons y r =>
  have:∀ (r:List Int) (y:Int),y<=r.foldl max y/\∀ z∈r,z<=r.foldl max y:=by
   intro r
   induction r with
   | nil=>intro y;exact ⟨Int.le_refl _,fun z b=>by cases b⟩
   | cons u r ih =>
    intro y;have h:=ih (max y u);rw [List.foldl_cons];refine ⟨by have:=h.1;omega,fun z b=>?_⟩
    rcases List.mem_cons.1 b with a|a
    ·have:=h.1;omega
    ·exact h.2 z a
  have h:=this r y
  rcases List.mem_cons.1 c with a|a
  ·rw [a];exact h.1
  ·exact h.2 x a
def WR (R:List Int):Prop:=R.length=8/\∀ r,r<8->0<=R.getD r 0/\R.getD r 0<=18446744073709551615
theorem WR.set {R:List Int}(h:WR R)(k:Nat){v:Int}(a:0<=v/\v<=18446744073709551615):WR (R.set k v):=by
 refine ⟨by rw [List.length_set];exact h.1,fun r b=>?_⟩
 have:(R.set k v).getD r 0=if k=r/\k<R.length then v else R.getD r 0:=by
  simp only [List.getD,List.getElem?_set]
  by_cases e:k=r
  ·subst e
   by_cases hl:k<R.length
   ·simp [hl]
   ·simp [hl,List.getElem?_eq_none (show R.length<=k by omega)]
  ·simp [e]
 rw [this]
 split
 ·exact a
 ·exact h.2 r b
def qCk (i:In) (R:List Int):Int:=if i.b=8 then u64 i.imm else R.getD i.b.toNat 0
theorem qIu {i:In}{R:List Int}(a:WR R)(c:i.b=8∨(0<=i.b/\i.b<=7)):0<=qCk i R/\qCk i R<=18446744073709551615:=by
 unfold qCk
 split
 ·exact qRk _
 ·exact a.2 _ (by omega)
structure Mc where
 regs:List Int
 turn:Int->Int
 pc:Nat
 steps:Nat
 mode:Nat
 ws:List Int
 cs:List Int
structure Ac where
 k:Int
 pc:Int
 im:Int
 io:Int
 ik:Int
 iv:Int
 v:Int
def qGe (k:Int) (p:Nat) (v:Int):Ac:=⟨k,p,0,0,0,0,v⟩
def qBj (R:List Int) (r:Int):Int:=R.getD r.toNat 0
def upW (a b:Int):Int:=(a+b)%18446744073709551616
def qCz (i:In) (M:Mc):Bool:=if i.op=15 then true else if i.op=20 then decide (0<qBj M.regs i.a/\M.turn M.pc<i.imm) else qCo i.op (qBj M.regs i.a) (qCk i M.regs)
def qCg (i:In) (M:Mc):Int->Int:=if i.op=20 then (fun t=>if t=M.pc then (if qCz i M=true then M.turn M.pc+1 else 0) else M.turn t) else M.turn
def qBy (ev:Int×Int) (i:In) (M:Mc):List Int×List Int :=
 if i.op=0 then (M.regs.set i.d.toNat (qCk i M.regs),M.ws)
 else if 1<=i.op/\i.op<=10 then (M.regs.set i.d.toNat (doL i.op (qBj M.regs i.a) (qCk i M.regs)),M.ws)
 else if i.op=11 then (M.regs.set i.d.toNat (M.ws.getD (qCk i M.regs).toNat 0),M.ws)
 else if i.op=12 then (M.regs,M.ws.set (qCk i M.regs).toNat (qBj M.regs i.a))
 else if i.op=13 then (M.regs.set i.d.toNat (if i.imm=0 then ev.1 else ev.2),M.ws)
 else if i.op=14 then (M.regs.set i.d.toNat i.imm,M.ws)
 else (M.regs,M.ws)
def qPo (ms:List Int) (i:In) (M:Mc):Ac×Mc :=
 if i.imm<=4 then (⟨2,M.pc,ms.getD (qBj M.regs 1).toNat 0,i.imm,qBj M.regs 2,if i.imm=2∨i.imm=4 then qBj M.regs 3 else 0,0⟩,{ M with steps:=M.steps+1,mode:=1 })
 else if i.imm=5 then (qGe 1 M.pc (upW (M.cs.getD (qBj M.regs 1).toNat 0) 1),{ M with regs:=M.regs.set 0 (upW (M.cs.getD (qBj M.regs 1).toNat 0) 1),cs:=M.cs.set (qBj M.regs 1).toNat (upW (M.cs.getD (qBj M.regs 1).toNat 0) 1),steps:=M.steps+1,pc:=M.pc+1 })
 else (qGe 3 M.pc (qBj M.regs 1),{ M with regs:=M.regs.set 0 0,steps:=M.steps+1,pc:=M.pc+1 })
def qBe (ms:List Int) (xs:List In) (ev:Int×Int) (M:Mc):Ac×Mc :=
 if M.mode=1 then (qGe 5 M.pc 0,M)
 else if M.mode=2 then (qGe 6 M.pc (qBj M.regs (nth xs M.pc).a),M)
 else if (nth xs M.pc).op=21 then qPo ms (nth xs M.pc) M
 else if (nth xs M.pc).op=22 then (qGe 4 M.pc (qBj M.regs (nth xs M.pc).a),{ M with steps:=M.steps+1,mode:=2 })
 else if ((nth xs M.pc).leads&&qCz (nth xs M.pc) M)=true then (qGe 1 M.pc 0,{ M with turn:=qCg (nth xs M.pc) M,steps:=M.steps+1,pc:=((M.pc:Int)+(nth xs M.pc).far).toNat })
 else (qGe 1 M.pc 0,{ M with regs:=(qBy ev (nth xs M.pc) M).1,ws:=(qBy ev (nth xs M.pc) M).2,turn:=qCg (nth xs M.pc) M,steps:=M.steps+1,pc:=M.pc+1 })
def yCd (h E:Int) (f:Bool) (v:Int):Int:=if h=0∨h=4 then v else if ((h=1∨h=3)/\f=true)∨(h=2/\E=0) then 1 else 0
def qGk (xs:List In) (M:Mc) (E:Int) (f:Bool) (v:Int):Mc:={ M with regs:=M.regs.set 0 (yCd (nth xs M.pc).imm E f v),mode:=0,pc:=M.pc+1 }
def startE:Mc:=⟨List.replicate 8 0,fun _=>0,0,0,0,List.replicate 16 0,List.replicate 16 0⟩
def W16 (l:List Int):Prop:=l.length=16/\∀ r,r<16->0<=l.getD r 0/\l.getD r 0<=18446744073709551615
theorem W16.set {l:List Int}(h:W16 l)(k:Nat){v:Int}(a:0<=v/\v<=18446744073709551615):W16 (l.set k v):=by
 refine ⟨by rw [List.length_set];exact h.1,fun r b=>?_⟩
 have:(l.set k v).getD r 0=if k=r/\k<l.length then v else l.getD r 0:=by
  simp only [List.getD,List.getElem?_set]
  by_cases e:k=r
  ·subst e
   by_cases hl:k<l.length
   ·simp [hl]
   ·simp [hl,List.getElem?_eq_none (show l.length<=k by omega)]
  ·simp [e]
 rw [this]
 split
 ·exact a
 ·exact h.2 r b
theorem yDc (a b:Int):0<=upW a b/\upW a b<=18446744073709551615:=by unfold upW;omega
theorem yBy {l:List Ty}(a:l≠[]):l.getD 0 Ty.nil∈l:=by
 cases l with
 | nil=>exact absurd rfl a
 | cons x r=>exact List.mem_cons_self ..
theorem qXr {nm:Nat}{l:List Ty}(g:l≠[])(h:∀ t∈l,Made nm t):Made nm (qEn l):=by
 have A:=h _ (yBy g);unfold qEn
 by_cases ha:l.all (qFc (l.getD 0 Ty.nil))=true
 ·rw [if_pos ha]
  by_cases h1:(l.getD 0 Ty.nil).k=1
  ·rw [if_pos h1]
   have i:∀ t∈l,t.k=1/\0<=t.lo/\t.lo<=t.hi/\t.hi<=18446744073709551615:=by
    intro t c;have o:=(List.all_eq_true.1 ha) t c;simp only [qFc,Bool.and_eq_true,decide_eq_true_eq] at o;have K:=o.1.trans h1
    rcases h t c with y|y|y<;>omega
   have d:qCm l≠[]:=by unfold qCm;simpa using g
   have B:qCj (qCm l)=true:=by
    unfold qCj;rw [Bool.and_eq_true];refine ⟨by cases f:qCm l with|nil=>exact absurd f d|cons a b=>rfl,List.all_eq_true.2 fun s f=>?_⟩;obtain ⟨t,c,rfl⟩:=List.mem_map.1 f;exact decide_eq_true (i t c).2.2.1
   unfold qDe;rw [if_pos B];have n:loF (qCm l)∈(qCm l).map (·.1):=yWw (by simpa using d);have r:hiF (qCm l)∈(qCm l).map (·.2):=yVt (by simpa using d);obtain ⟨s,f,D⟩:=List.mem_map.1 n;obtain ⟨t,c,rfl⟩:=List.mem_map.1 f;obtain ⟨I,u,z⟩:=List.mem_map.1 r;obtain ⟨E,w,rfl⟩:=List.mem_map.1 u;have F:t.hi<=hiF (qCm l):=xAf (List.mem_map.2 ⟨(t.lo,t.hi),List.mem_map.2 ⟨t,c,rfl⟩,rfl⟩);have G:=i t c;have J:=i E w;simp only at D z;exact qNq (by omega) (by omega) (by omega)
  ·rw [if_neg h1];exact A
 ·rw [if_neg ha];exact qLy nm
theorem yYl {op a A b B:Int}(o:1<=op/\op<=10)(d:0<=a)(hA:A<=18446744073709551615)(i:0<=b)(s:B<=18446744073709551615)(r:a<=A)(u:b<=B) :
  0<=(qBn op a A b B).1/\(qBn op a A b B).2<=18446744073709551615:=by
 unfold qBn
 by_cases c:a=A/\b=B
 ·rw [if_pos c];have:=qVh op (a:=a) (b:=b) ⟨d,by omega⟩ ⟨i,by omega⟩;exact this
 rw [if_neg c]
 have f:op=1∨op=2∨op=3∨op=4∨op=5∨op=6∨op=7∨op=8∨op=9∨op=10:=by omega
 have w:=yYx (n:=max A B) (by omega) (by omega)
 have l:∀ k:Nat,(0:Int)<2 ^ k:=fun k=>Int.pow_pos (by decide)
 rcases f with rfl|rfl|rfl|rfl|rfl|rfl|rfl|rfl|rfl|rfl
 ·simp only [if_true];split<;>simp<;>omega
 ·simp;split<;>simp<;>omega
 ·simp
  split
  ·simp
  ·have:0<=a*b:=Int.mul_nonneg d i
   simp;omega
 ·simp
  split
  ·simp;omega
  ·have h3:0<=a / B:=Int.ediv_nonneg d (by omega);have g:A / b<=A:=Int.ediv_le_self _ (by omega)
   simp;omega
 ·simp
  split
  ·simp;omega
  ·split
   ·simp;omega
   ·simp;omega
 ·simp;omega
 ·simp;omega
 ·simp;omega
 ·simp
  split
  ·rename_i h3
   have g:0<=a*2 ^ min b.toNat 64:=Int.mul_nonneg d (Int.le_of_lt (l _))
   simp
   exact ⟨g,h3.2⟩
  ·simp
 ·simp
  have h3:0<=a / 2 ^ min B.toNat 64:=Int.ediv_nonneg d (Int.le_of_lt (l _));have g:A / 2 ^ min b.toNat 64<=A:=Int.ediv_le_self _ (by omega);exact ⟨h3,by omega⟩
theorem yQp {op a A b B:Int}{h:Bool}{p:Int×Int}(d:a<=A)(c:qEo op a A b B h=some p):a<=p.1/\p.1<=p.2/\p.2<=A:=by
 unfold qEo at c
 repeat' split at c
 all_goals first|(cases c;done)|(injection c with c;subst c;simp only;omega)
theorem yYv {nm:Nat}{op:Int}{a b:Ty}(f:1<=op/\op<=10)(l:Made nm a)(i:Made nm b)(o:a.k=1)(kb:b.k=1):Made nm (doT op a b):=by
 have c:0<=a.lo/\a.lo<=a.hi/\a.hi<=18446744073709551615:=by rcases l with h|h|h<;>omega
 have d:0<=b.lo/\b.lo<=b.hi/\b.hi<=18446744073709551615:=by rcases i with h|h|h<;>omega
 unfold doT doR;rw [if_pos ⟨f,c.2.1,d.2.1⟩];have g:=yYl f c.1 c.2.2 d.1 d.2.2 c.2.1 d.2.1;have n:=yKz f c.1 c.2.2 d.1 d.2.2 c.2.1 d.2.1;exact qNq g.1 n g.2
theorem qDq {i:In}(c:i.right=true)(g:i.op<=12∨(16<=i.op/\i.op<=19)):i.src=true/\(i.b=8∨(0<=i.b/\i.b<=7)):=by
 obtain ⟨op,d,a,b,f⟩:=i;unfold In.right at c;simp only at c g;have h0:=qDm c;refine ⟨by unfold In.src qCv;simp [c,qBw];omega,?_⟩
 have k:qCr b f=true:=by
  by_cases c1:op=0∨op=11
  ·unfold qAq at c;rw [if_pos c1] at c;simp at c;exact c.2
  by_cases c2:1<=op/\op<=10
  ·rw [qIc c2] at c;simp at c;exact c.2
  by_cases c3:op=12
  ·subst c3;rw [qMt] at c;simp at c;exact c.2
  ·rw [qIy (by omega)] at c;simp at c;exact c.2
 simp [qCr,qAu] at k
 simp only
 omega
theorem qDc {i:In}(f:i.right=true)(g:(1<=i.op/\i.op<=10)∨i.op=12∨(16<=i.op/\i.op<=20)∨i.op=22):0<=i.a/\i.a<=7:=by
 obtain ⟨op,d,a,b,k⟩:=i;unfold In.right at f;simp only at f g ⊢
 rcases g with c|c|c|c
 ·rw [qIc c] at f;simp [qAu] at f;omega
 ·subst c;rw [qMt] at f;simp [qAu] at f;omega
 ·by_cases h20:op=20
  ·subst h20;rw [qKv] at f;simp [qAu] at f;omega
  ·rw [qIy (by omega)] at f;simp [qAu] at f;omega
 ·subst c;rw [qRv] at f;simp [qAu] at f;omega
theorem qCy {i:In}(c:i.right=true)(f:i.op<=11∨i.op=13∨i.op=14):0<=i.d/\i.d<=7:=by
 obtain ⟨op,d,a,b,g⟩:=i;unfold In.right at c;simp only at c f ⊢;have h0:=qDm c
 by_cases c1:op=0∨op=11
 ·unfold qAq at c;rw [if_pos c1] at c;simp [qAu] at c;omega
 by_cases c2:1<=op/\op<=10
 ·rw [qIc c2] at c;simp [qAu] at c;omega
 by_cases c3:op=13
 ·subst c3;rw [qOl] at c;simp [qAu] at c;omega
 ·obtain rfl:op=14:=by omega
  rw [qJo] at c;simp [qAu] at c;omega
theorem qLb {i:In}(c:i.right=true)(f:i.op=21):0<=i.imm/\i.imm<7:=by
 obtain ⟨op,d,a,b,g⟩:=i;unfold In.right at c;simp only at c f ⊢;subst f;rw [qSk] at c;simp at c;omega
theorem yPb {i:In}(c:i.right=true)(f:i.op=14):0<=i.imm:=by
 obtain ⟨op,d,a,b,g⟩:=i;unfold In.right at c;simp only at c f ⊢;subst f;rw [qJo] at c;simp at c;omega
theorem yWk (nm:Nat)(h:Int):Made nm (qCs h).1:=by
 unfold qCs
 repeat' split
 all_goals first|exact qLy nm|exact .inr (.inl ⟨rfl,by decide,by decide,by decide,rfl⟩)
theorem qKd {nm:Nat}{i:In}{s head r:St}{g:Bool}(f:i.right=true)(c:Made8 nm s)(d:qEc nm i s head=0)(b:qBp i s g=some r):Made8 nm r:=by
 have h0:0<=i.op/\i.op<=22:=qDm f;unfold qBp at b;unfold qEc at d
 by_cases c0:i.op=0
 ·rw [if_pos c0] at b;injection b with b;subst b;exact c.set _ (qJh c (qDq f (.inl (by omega))).2)
 rw [if_neg c0] at b d
 by_cases c1:1<=i.op/\i.op<=10
 ·rw [if_pos (by simp [qAv];omega)] at b;injection b with b;subst b;obtain ⟨n,o⟩:=qDq f (.inl (by omega));rw [if_neg (by omega),if_neg (by omega),if_neg (by omega),if_neg (by omega),if_neg (by omega),if_neg (by omega)] at d
  have l:(qBg s i.a).k=1/\(qJe i s).k=1:=by
   by_cases l:(qBg s i.a).k≠1∨(qJe i s).k≠1
   ·rw [if_pos l] at d;cases d
   ·omega
  have e:qJe i s=qBa i s:=by unfold qJe;rw [if_pos n]
  rw [e] at l;exact c.set _ (yYv c1 (c.reg (qDc f (.inl c1))) (qJh c o) l.1 l.2)
 rw [if_neg (by simp [qAv];omega)] at b
 by_cases c2:i.op=11∨i.op=13
 ·rw [if_pos c2] at b;injection b with b;subst b;exact c.set _ (qRr nm)
 rw [if_neg c2] at b
 by_cases c3:i.op=14
 ·rw [if_pos c3] at b;injection b with b;subst b;rw [if_neg (by omega),if_pos c3] at d
  have h1:i.imm<nm:=by
   by_cases hq:(nm:Int)<=i.imm
   ·rw [if_pos hq] at d;cases d
   ·omega
  exact c.set _ (.inr (.inr ⟨rfl,rfl,rfl,yPb f c3,h1⟩))
 rw [if_neg c3] at b
 by_cases c4:i.op=21
 ·rw [if_pos c4] at b;injection b with b;subst b;exact c.set _ (yWk nm _)
 rw [if_neg c4] at b
 by_cases c5:16<=i.op/\i.op<=19
 ·rw [if_pos (by simp [qBw];omega)] at b;obtain ⟨n,o⟩:=qDq f (.inr c5);have hA:=c.reg (qDc f (.inr (.inr (.inl (by omega)))))
  cases hq:qDb i.op (qBg s i.a).lo (qBg s i.a).hi (qBa i s).lo (qBa i s).hi g with
  | none=>rw [hq] at b;cases b
  | some p =>
   rw [hq] at b;injection b with b;subst b;unfold qDb at hq
   split at hq
   ·rename_i h1
    have w:=yQp h1.2.1 hq;have u:=hA.ends;exact c.set _ (qNq (by omega) (by omega) (by omega))
   ·cases hq
 ·rw [if_neg (by simp [qBw];omega)] at b;injection b with b;subst b;exact c
def qGj (a b:Ty):Ty:=if eqT a b=true then a else if a.k=1/\b.k=1 then qHk (qDe [(a.lo,a.hi),(b.lo,b.hi)]).1 (qDe [(a.lo,a.hi),(b.lo,b.hi)]).2 else Ty.nil
theorem ty_eq {a b:Ty}:a=b↔a.k=b.k/\a.lo=b.lo/\a.hi=b.hi/\a.m=b.m:=by
 obtain ⟨d,g,c,f⟩:=a;obtain ⟨b0,i,b2,l⟩:=b
 simp
theorem yNj {a A b B:Int}(d:a<=A)(c:b<=B):qDe [(a,A),(b,B)]=(min a b,max A B):=by
 have:qCj [(a,A),(b,B)]=true:=by simp [qCj,okS,d,c]
 unfold qDe;rw [if_pos this]
 rfl
theorem qHo {nm:Nat}{a b:Ty}(c:Made nm a)(d:Made nm b) :
  qGj a b=if a.k=1/\b.k=1 then qHk (min a.lo b.lo) (max a.hi b.hi) else if a.k=2/\b.k=2/\a.m=b.m then a else Ty.nil:=by
 unfold qGj
 by_cases he:eqT a b=true
 ·rw [if_pos he];have e:=(qKq a b).1 he;subst e
  rcases c with h|h|h
  ·rw [if_neg (by omega),if_neg (by omega),ty_eq];exact h
  ·rw [if_pos (by omega),Int.min_self,Int.max_self,ty_eq];exact ⟨h.1,rfl,rfl,h.2.2.2.2⟩
  ·rw [if_neg (by omega),if_pos (by omega)]
 ·rw [if_neg he]
  by_cases h1:a.k=1/\b.k=1
  ·rw [if_pos h1,if_pos h1,yNj (by rcases c with h|h|h<;>omega) (by rcases d with h|h|h<;>omega)]
  ·rw [if_neg h1,if_neg h1]
   by_cases h2:a.k=2/\b.k=2/\a.m=b.m
   ·exfalso
    apply he
    rw [qKq,ty_eq]
    rcases c with h|h|h<;>rcases d with f|f|f<;>omega
   ·rw [if_neg h2]
theorem qQw {nm:Nat}{a b:Ty}(c:Made nm a)(d:Made nm b):Made nm (qGj a b):=by
 rw [qHo c d]
 split
 ·have f:0<=a.lo/\a.lo<=a.hi/\a.hi<=18446744073709551615:=by rcases c with h|h|h<;>omega
  have g:0<=b.lo/\b.lo<=b.hi/\b.hi<=18446744073709551615:=by rcases d with h|h|h<;>omega
  exact qNq (by omega) (by omega) (by omega)
 ·split
  ·exact c
  ·exact qLy nm
theorem yLl {nm:Nat}{a b c:Ty}(d:Made nm a)(f:Made nm b)(g:Made nm c):qGj (qGj a b) c=qGj (qGj a c) b:=by
 rw [qHo (qQw d f) g,qHo (qQw d g) f,qHo d f,qHo d g];obtain ⟨ak,y,w,am⟩:=a;obtain ⟨z,r,s,n⟩:=b;obtain ⟨o,A,u,l⟩:=c;simp only [Made] at d f g
 rcases d with ⟨rfl,h⟩|⟨rfl,h⟩|⟨rfl,h⟩<;>rcases f with ⟨rfl,k⟩|⟨rfl,k⟩|⟨rfl,k⟩<;>rcases g with ⟨rfl,i⟩|⟨rfl,i⟩|⟨rfl,i⟩<;>simp [qHk,Ty.nil]<;>(try omega)
 all_goals by_cases e1:am=n<;>by_cases e2:am=l
 all_goals first|(subst e1 e2;simp;done)|(subst e1;simp [e2];done)|(subst e2;simp [e1];done)|(simp [e1,e2];done)
theorem yJi {nm:Nat}{l:List Ty}{t:Ty}(f:l≠[])(h:∀ u∈l,Made nm u)(B:Made nm t):qEn (l++[t])=qGj (qEn l) t:=by
 rw [qHo (qXr f h) B]
 have h0:(l++[t]).getD 0 Ty.nil=l.getD 0 Ty.nil:=by
  cases l with
  | nil=>exact absurd rfl f
  | cons x r=>rfl
 have L:=h _ (yBy f);unfold qEn;rw [h0,List.all_append]
 generalize hX:l.getD 0 Ty.nil=x at *
 by_cases ha:l.all (qFc x)=true
 ·rw [if_pos ha,ha,Bool.true_and]
  have n:([t].all (qFc x)=true)↔(t.k=x.k/\¬ (t.k=2/\t.m≠x.m)):=by
   simp only [List.all_cons,List.all_nil,qFc,Bool.and_true,Bool.and_eq_true,decide_eq_true_eq,Bool.not_eq_true',Bool.and_eq_false_iff,decide_eq_false_iff_not]
   omega
  by_cases hk:x.k=1
  ·simp only [if_pos hk]
   by_cases ht1:t.k=1
   ·rw [if_pos (n.2 ⟨by omega,by omega⟩),if_pos ⟨rfl,ht1⟩]
    have o:∀ u∈l,u.k=1/\0<=u.lo/\u.lo<=u.hi/\u.hi<=18446744073709551615:=by
     intro u g;have z:=(List.all_eq_true.1 ha) u g;simp only [qFc,Bool.and_eq_true,decide_eq_true_eq] at z;have M:=z.1.trans hk
     rcases h u g with d|d|d<;>omega
    have y:t.lo<=t.hi:=by rcases B with d|d|d<;>omega
    have i:qCm l≠[]:=by unfold qCm;simpa using f
    have D:∀ m:List Ty,m≠[]->(∀ u∈m,u.lo<=u.hi)->qCj (qCm m)=true:=by
     intro m hm g;unfold qCj;rw [Bool.and_eq_true];refine ⟨by cases m with|nil=>exact absurd rfl hm|cons a b=>rfl,List.all_eq_true.2 fun s E=>?_⟩;obtain ⟨u,A,rfl⟩:=List.mem_map.1 E;exact decide_eq_true (g u A)
    have F:=D l f fun u g=>(o u g).2.2.1
    have J:=D (l++[t]) (by simp) fun u g=>by
     rcases List.mem_append.1 g with w|w
     ·exact (o u w).2.2.1
     ·rw [List.mem_singleton.1 w];exact y
    unfold qDe;rw [if_pos F,if_pos J]
    have I:qCm (l++[t])=qCm l++[(t.lo,t.hi)]:=by simp [qCm]
    have G:(qCm l).map (·.1)≠[]:=by simpa using i
    have K:(qCm l).map (·.2)≠[]:=by simpa using i
    rw [I];unfold loF hiF;rw [List.map_append,List.map_append,List.map_singleton,List.map_singleton,qSg G,qSt K]
    rfl
   ·rw [if_neg (fun c=>ht1 (by have:=(n.1 c).1;omega)),if_neg (fun c=>ht1 c.2),if_neg (fun c=>by simp [qHk] at c)]
  ·simp only [if_neg hk]
   by_cases hl:t.k=x.k/\¬ (t.k=2/\t.m≠x.m)
   ·rw [if_pos (n.2 hl),if_neg (fun c=>hk c.1)]
    rcases L with d|d|d
    ·rw [if_neg (by omega),ty_eq];exact d
    ·omega
    ·rw [if_pos ⟨d.1,by omega,by omega⟩]
   ·rw [if_neg (fun c=>hl (n.1 c)),if_neg (fun c=>hk c.1),if_neg (by omega)]
 ·rw [if_neg ha,if_neg (by simp only [Bool.and_eq_true];exact fun c=>ha c.1),if_neg (by simp [Ty.nil]),if_neg (by simp [Ty.nil])]
theorem yOz {nm:Nat}{t:Ty}(b:Made nm t):qEn [t]=t:=by
 unfold qEn
 have:[t].all (qFc ([t].getD 0 Ty.nil))=true:=by simp [qFc]
 rw [if_pos this]
 show (if t.k=1 then _ else t)=t
 split
 ·rename_i h1
  have a:t.lo<=t.hi/\t.m=0:=by rcases b with h|h|h<;>omega
  have c:qCj (qCm [t])=true:=by simp [qCj,qCm,okS,a.1]
  unfold qDe;rw [if_pos c,ty_eq];exact ⟨h1.symm,rfl,rfl,a.2.symm⟩
 ·rfl
end Go.Proofs.YtmdhljoicnommaaGreat
