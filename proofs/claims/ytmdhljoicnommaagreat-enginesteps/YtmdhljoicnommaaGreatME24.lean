/-
  Hp10
  F7Slices
-/
import Derived.Test.YtmdhljoicnommaaGreatME6
import Derived.Test.YtmdhljoicnommaaGreatME19
import Derived.Deep.MidRow
namespace Go.Proofs.YtmdhljoicnommaaGreat
set_option maxHeartbeats 12800000
open Go.RowKit
set_option linter.unusedVariables false
set_option maxRecDepth 100000
def qEr {α:Type}:List α->Nat->List α->List α
 | cs,_,[]=>cs
 | cs,o,v :: r=>qEr (cs.set o v) (o+1) r
theorem yIc {α:Type}(vs:List α):∀ (cs:List α) (o:Nat),(qEr cs o vs).length=cs.length:=by
 induction vs with
 | nil=>intro cs o;rfl
 | cons v r ih=>intro cs o;simp [qEr,ih]
theorem qRa {α:Type}(vs:List α):∀ (a b:List α) (o:Nat),qEr (a++b) (a.length+o) vs=a++qEr b o vs:=by
 induction vs with
 | nil=>intro a b o;rfl
 | cons v r ih =>
  intro a b o;simp only [qEr];rw [List.set_append_right _ _ (by omega),show a.length+o-a.length=o by omega,show a.length+o+1=a.length+(o+1) by omega,ih]
theorem qSc {α:Type}(vs:List α):∀ (a b:List α) (o:Nat),o+vs.length<=a.length->qEr (a++b) o vs=qEr a o vs++b:=by
 induction vs with
 | nil=>intro a b o _;rfl
 | cons v r ih =>
  intro a b o h;simp only [List.length_cons] at h;simp only [qEr];rw [List.set_append_left _ _ (by omega),ih _ _ _ (by simp;omega)]
theorem qBo {α : Type} : ∀ (vs a : List α), vs.length = a.length -> qEr a 0 vs = vs := by
  have b : ∀ (vs p a : List α), vs.length = a.length -> qEr (p ++ a) p.length vs = p ++ vs := by
    intro vs
    induction vs with
    | nil => intro p a h; have : a = [] := by simpa using h.symm
             subst this; rfl
    | cons v r ih =>
      intro p a h
      cases a with
      | nil => simp at h
      | cons x a =>
        simp only [qEr];have := ih (p ++ [v]) a (by simpa using h);rw [List.set_append_right _ _ (by omega)];simp only [Nat.sub_self, List.set_cons_zero]
        simpa using this
  intro vs a h;exact b vs [] a h
def Hp (w:World) (b:Nat) (t:TypeId) (cs:List Value):Prop:=w.heap[b]? = some (.cells cs.toArray t (0,0))
theorem Hp.lt {w:World}{b:Nat}{t:TypeId}{cs:List Value}(h:Hp w b t cs):b<w.heap.size:=(Array.getElem?_eq_some_iff.1 h).1
theorem Hp.cell {w:World}{b j:Nat}{t:TypeId}{cs:List Value}(h:Hp w b t cs){v:Value}(a:cs[j]? = some v):w.cell? ⟨b,j,none⟩=some v:=by
 rw [cell_of_row w b j _ _ _ h];simpa using a
theorem Hp.frozen {w:World}{b:Nat}{t:TypeId}{cs:List Value}(h:Hp w b t cs)(j:Nat):w.frozen? ⟨b,j,none⟩=false:=by
 unfold Hp at h
 simp [World.frozen?,h]
theorem Hp.range {w:World}{b:Nat}{t:TypeId}{cs:List Value}(h:Hp w b t cs){o:Nat}{l:List Value}(c:∀ j,j<l.length->cs[o+j]? = l[j]?):w.rangeAt b o l:=fun j v a=>by
 have d:j<l.length:=(List.getElem?_eq_some_iff.1 a).1;exact h.cell ((c j d).trans a)
theorem Hp.there {w:World}{b:Nat}{t:TypeId}{cs:List Value}(h:Hp w b t cs){o n:Nat}(c:o+n<=cs.length):w.there b o n:=fun j a =>
 ⟨by rw [h.cell (List.getElem?_eq_getElem (show o+j<cs.length by omega))];rfl,h.frozen _⟩
theorem Hp.below {w a:World}{b B:Nat}{t:TypeId}{cs:List Value}(h:Hp w b t cs)(c:Below B w a)(d:b<B):Hp a b t cs:=by
 unfold Hp;rw [c.block b d];exact h
theorem Hp.grown {w a:World}{b:Nat}{t:TypeId}{cs:List Value}{row:Option Nat}(h:Hp w b t cs)(d:w.grownBy a row)(c:some b≠row):Hp a b t cs:=by
 unfold Hp;rw [d.block b h.lt c];exact h
theorem Hp.drew {w:World}{b:Nat}{t:TypeId}{cs:List Value}(h:Hp w b t cs):Hp w.drew b t cs:=h
theorem Hp.alloc {w:World}{b:Nat}{t:TypeId}{cs:List Value}(h:Hp w b t cs)(o:Obj):Hp (w.alloc o) b t cs:=by
 unfold Hp;rw [Below.heap_alloc _ _ _ h.lt];exact h
theorem Hp.new (w:World)(cs:List Value)(t:TypeId):Hp (w.alloc (.cells cs.toArray t)) w.heap.size t cs:=heap_alloc_new w _
theorem Hp.set {w:World}{b:Nat}{t:TypeId}{cs:List Value}(h:Hp w b t cs)(i:Nat)(v:Value):Hp (w.setCell ⟨b,i,none⟩ v) b t (cs.set i v):=by
 have:=heap_setCell_same w b i cs.toArray t v h;unfold Hp;rw [this]
 simp
theorem Hp.far {w:World}{b:Nat}{t:TypeId}{cs:List Value}(h:Hp w b t cs){b' i:Nat}{v:Value}(a:b≠b'):Hp (w.setCell ⟨b',i,none⟩ v) b t cs:=by
 unfold Hp;rw [Below.heap_setCell _ _ _ _ a];exact h
theorem Hp.sets {b:Nat}{t:TypeId}:∀ (vs:List Value) {w:World} {cs:List Value} (o:Nat),Hp w b t cs->Hp (w.setCells b o vs) b t (qEr cs o vs):=by
 intro vs
 induction vs with
 | nil=>intro w cs o h;exact h
 | cons v r ih=>intro w cs o h;exact ih (o+1) (h.set o v)
theorem Hp.fars {b b':Nat}{t:TypeId}{cs:List Value}(a:b≠b'):∀ (vs:List Value) {w:World} (o:Nat),Hp w b t cs->Hp (w.setCells b' o vs) b t cs:=by
 intro vs
 induction vs with
 | nil=>intro w o h;exact h
 | cons v r ih=>intro w o h;exact ih (o+1) (h.far a)
theorem qIz (w:World)(row:Option Nat):w.grownBy w row:=⟨rfl,rfl,rfl,Nat.le_refl _,fun _ _ _=>rfl⟩
theorem qCd {w d b:World}{row:Option Nat}(h:w.grownBy d row)(g:d.grownBy b row):w.grownBy b row :=
 ⟨g.os.trans h.os,g.tape.trans h.tape,g.output.trans h.output,Nat.le_trans h.size g.size,fun k c a=>(g.block k (Nat.lt_of_lt_of_le c h.size) a).trans (h.block k c a)⟩
theorem qAc (w:World)(b i:Nat)(v:Value):w.grownBy (w.setCell ⟨b,i,none⟩ v) (some b) :=
 ⟨rfl,rfl,rfl,by simp [World.setCell],fun k _ a=>Below.heap_setCell _ _ _ _ (fun e=>a (by rw [e]))⟩
theorem qAd (b:Nat):∀ (vs:List Value) (w:World) (o:Nat),w.grownBy (w.setCells b o vs) (some b):=by
 intro vs
 induction vs with
 | nil=>intro w o;exact qIz _ _
 | cons v r ih=>intro w o;exact qCd (qAc w b o v) (ih _ _)
theorem qCb {w a:World}{row:Option Nat}(h:w.grownBy a row):w.grownBy a.drew row:=⟨h.os,h.tape,h.output,h.size,h.block⟩
theorem qHc {w a:World}{row:Option Nat}(h:w.drew.grownBy a row):w.grownBy a row:=⟨h.os,h.tape,h.output,h.size,h.block⟩
theorem qBz {w a:World}(h:Bw w a)(row:Option Nat):w.grownBy a row:=⟨h.os,h.tape,h.output,h.size,fun k b _=>h.block k b⟩
theorem qAi {w a:World}{kb B:Nat}(h:w.grownBy a (some kb))(b:B<=kb)(d:B<=w.heap.size):Below B w a :=
 ⟨h.os,h.tape,h.output,h.size,fun k c=>h.block k (by omega) (fun e=>by injection e with e;omega)⟩

theorem hq4 {w:World}{b:Nat}{t:TypeId}{v0 v1 v2 v3:Value}(h:Hp w b t [v0,v1,v2,v3]):(w.cell? ⟨b,0,none⟩=some v0/\w.cell? ⟨b,1,none⟩=some v1/\w.cell? ⟨b,2,none⟩=some v2/\w.cell? ⟨b,3,none⟩=some v3)/\w.frozen? ⟨b,0,none⟩=false/\w.frozen? ⟨b,1,none⟩=false/\w.frozen? ⟨b,2,none⟩=false/\w.frozen? ⟨b,3,none⟩=false:=⟨⟨h.cell rfl,h.cell rfl,h.cell rfl,h.cell rfl⟩,h.frozen 0,h.frozen 1,h.frozen 2,h.frozen 3⟩
theorem hq5 {w:World}{b:Nat}{t:TypeId}{v0 v1 v2 v3 v4:Value}(h:Hp w b t [v0,v1,v2,v3,v4]):(w.cell? ⟨b,0,none⟩=some v0/\w.cell? ⟨b,1,none⟩=some v1/\w.cell? ⟨b,2,none⟩=some v2/\w.cell? ⟨b,3,none⟩=some v3/\w.cell? ⟨b,4,none⟩=some v4)/\w.frozen? ⟨b,0,none⟩=false/\w.frozen? ⟨b,1,none⟩=false/\w.frozen? ⟨b,2,none⟩=false/\w.frozen? ⟨b,3,none⟩=false/\w.frozen? ⟨b,4,none⟩=false:=⟨⟨h.cell rfl,h.cell rfl,h.cell rfl,h.cell rfl,h.cell rfl⟩,h.frozen 0,h.frozen 1,h.frozen 2,h.frozen 3,h.frozen 4⟩
theorem hq7 {w:World}{b:Nat}{t:TypeId}{v0 v1 v2 v3 v4 v5 v6:Value}(h:Hp w b t [v0,v1,v2,v3,v4,v5,v6]):(w.cell? ⟨b,0,none⟩=some v0/\w.cell? ⟨b,1,none⟩=some v1/\w.cell? ⟨b,2,none⟩=some v2/\w.cell? ⟨b,3,none⟩=some v3/\w.cell? ⟨b,4,none⟩=some v4/\w.cell? ⟨b,5,none⟩=some v5/\w.cell? ⟨b,6,none⟩=some v6)/\w.frozen? ⟨b,0,none⟩=false/\w.frozen? ⟨b,1,none⟩=false/\w.frozen? ⟨b,2,none⟩=false/\w.frozen? ⟨b,3,none⟩=false/\w.frozen? ⟨b,4,none⟩=false/\w.frozen? ⟨b,5,none⟩=false/\w.frozen? ⟨b,6,none⟩=false:=⟨⟨h.cell rfl,h.cell rfl,h.cell rfl,h.cell rfl,h.cell rfl,h.cell rfl,h.cell rfl⟩,h.frozen 0,h.frozen 1,h.frozen 2,h.frozen 3,h.frozen 4,h.frozen 5,h.frozen 6⟩
abbrev lpV (l:Lp):Value:=.agg #[.int .i64 l.h,.int .i64 l.t,.int .i64 l.b]
abbrev lpC (l:Lp):List Value:=[.int .i64 l.h,.int .i64 l.t,.int .i64 l.b]
abbrev lpO (l:Lp):Obj:=.cells #[.int .i64 l.h,.int .i64 l.t,.int .i64 l.b] 186
def AtL (w:World) (b off:Nat) (l:Lp):Prop:=w.cell? ⟨b,off,none⟩=some (.int .i64 l.h)/\w.cell? ⟨b,off+1,none⟩=some (.int .i64 l.t)/\w.cell? ⟨b,off+2,none⟩=some (.int .i64 l.b)
theorem AtL.below {w d:World}{b off B:Nat}{l:Lp}(h:AtL w b off l)(a:Below B w d)(c:b<B):AtL d b off l:=by
 unfold AtL;rw [a.cell (p:=⟨b,off,none⟩) c,a.cell (p:=⟨b,off+1,none⟩) c,a.cell (p:=⟨b,off+2,none⟩) c];exact h
def SeesL (w:World) (v:Value) (xs:List Lp):Prop :=
 ∃ a cap,v=.slice a xs.length cap/\xs.length<=cap/\cap<=maxLen/\(a=none->cap=0) /\
  (xs≠[]->∃ b off,a=some ⟨b,off,none⟩/\b<w.heap.size/\∀ k,k<xs.length->AtL w b (off+k*3) (xs.getD k Lp.nil))
theorem SeesL.below {w i:World}{v:Value}{xs:List Lp}(h:SeesL w v xs)(f:Bw w i):SeesL i v xs:=by
 obtain ⟨a,cap,rfl,n,s,l,r⟩:=h;refine ⟨a,cap,rfl,n,s,l,fun d=>?_⟩;obtain ⟨b,off,rfl,c,g⟩:=r d;exact ⟨b,off,rfl,Nat.lt_of_lt_of_le c f.size,fun k o=>(g k o).below f c⟩
def qHl (xs:List Lp):List Value:=xs.flatMap lpC
theorem yMd (l m:List Lp):qHl l++qHl m=qHl (l++m):=by simp [qHl]
theorem yBu:∀ (xs:List Lp)(k j:Nat),k<xs.length->j<3->(qHl xs)[k*3+j]? = (lpC (xs.getD k Lp.nil))[j]?
 | [],k,j,hk,_=>by simp at hk
 | x :: xs,0,j,_,hj=>by
  have e:qHl (x :: xs)=lpC x++qHl xs:=rfl;rw [e,List.getElem?_append_left (by simp [lpC];omega)]
  simp
 | x :: xs,k+1,j,hk,hj=>by
  have e:qHl (x :: xs)=lpC x++qHl xs:=rfl;have a:(lpC x).length=3:=rfl;rw [e,List.getElem?_append_right (by rw [a];omega),a,show (k+1)*3+j-3=k*3+j by omega,yBu xs k j (by simpa using hk) hj]
  simp [List.getD]
theorem yRd {w:World}{b off:Nat}{p:Lp}(h:∀ j,j<3->w.cell? ⟨b,off+j,none⟩=(lpC p)[j]?):AtL w b off p:=⟨h 0 (by omega),h 1 (by omega),h 2 (by omega)⟩
theorem qMg {w:World}{base:Nat}{e:TypeId}{v:Value}{xs:List Lp}(h:w.ownsRow base e 3 v xs.length (qHl xs)):SeesL w v xs:=by
 have h0:=h
 rcases h with ⟨u,⟨rfl,i⟩|⟨g,cap,n,rfl,o,a,b,d,s,r⟩⟩
 ·have:xs=[]:=List.eq_nil_of_length_eq_zero i;subst this;exact ⟨none,0,rfl,by simp,by simp [maxLen],fun _=>rfl,fun h=>absurd rfl h⟩
 ·refine ⟨_,cap,rfl,b,d,fun h=>by simp at h,fun l=>⟨g,0,rfl,(Array.getElem?_eq_some_iff.1 a).1,fun k c=>yRd fun j f=>?_⟩⟩;rw [Nat.zero_add,h0.cellAt (k*3+j) (by omega)];exact yBu xs k j c f
theorem yMj (w:World)(x y z:Value)(t:TypeId)(n:Nat)(b:n=w.heap.size):∀ j u,[x,y,z][j]? = some u->(w.alloc (.cells #[x,y,z] t)).cell? ((⟨n,0,none⟩:Addr).add j)=some u:=by
 subst b;intro j u a;rw [qIq,Nat.zero_add,World.cell?_alloc_at _ _ _ _ rfl];exact (List.getElem?_toArray (xs:=[x,y,z])).trans a
theorem yRc (a b c:Int):∀ u∈[Value.int .i64 a,I4 b,I4 c],u.oneCell'=true:=by
 intro u d
 simp at d
 rcases d with rfl|rfl|rfl<;>rfl
def yLk (a:Option Addr) (l h m:Nat):Value:=.slice (if m=l then a else a.map (·.add (l*3))) (h-l) (m-l)
theorem yMv (a:Option Addr)(b cap i:Nat)(hi:i<=cap)(w:World) :
  (Instr.slice 143 (.slice a b cap) none (some (I4 i)) none).run Tryz.prog w=.ok (yLk a 0 i cap) w:=by
 have h0:(i:Int)<=(cap:Int):=by omega
 simp [Instr.slice,run_underlying Tryz.underlying143,Instr.sliceBounds,run_sliceBound,h0,yLk]
theorem yQj (b off i cap:Nat):yLk (some ⟨b,off,none⟩) 0 i cap=.slice (some ⟨b,off,none⟩) i cap:=by
 unfold yLk
 simp
 intro _;rw [qIq,Nat.add_zero]
end Go.Proofs.YtmdhljoicnommaaGreat
