
/-
 Append to the call's own row,with a wider bound than 2^47 bytes: what a grown row takes is at most a quarter and a little more than what is wanted. Condition: at most 219902325555200 bytes wanted,elements of at most 8 bytes.
-/
import Derived.Laws.AppendOwn
import Derived.Laws.OwnMore
import Derived.ProofKit
namespace Go.Proofs.YtmdhljoicnommaaGreat
set_option maxHeartbeats 12800000
open Go.RowKit
set_option linter.unusedVariables false

theorem yBo {a b:Nat}(h:b<a):Builtin.nextslicecap a b<=a+a / 4+512:=by
 unfold Builtin.nextslicecap
 split
 ·omega
 ·split
  ·omega
  ·rw [growBy_four]
   repeat' split
   all_goals omega
theorem yOg {a b bytes:Nat}(h:b<a)(d:a*bytes<=219902325555200)(f:bytes<=8):Builtin.nextslicecap a b*bytes<=281474976710656:=by
 have k:Builtin.nextslicecap a b*bytes<=(a+a / 4+512)*bytes:=Nat.mul_le_mul_right _ (yBo h);have c:a / 4*4<=a:=Nat.div_mul_le_self a 4;have i:a / 4*4*bytes<=a*bytes:=Nat.mul_le_mul_right _ c
 have l:a / 4*4*bytes=4*(a / 4*bytes):=by rw [Nat.mul_comm (a / 4) 4,Nat.mul_assoc]
 have g:(a+a / 4+512)*bytes=a*bytes+a / 4*bytes+512*bytes:=by rw [Nat.add_mul,Nat.add_mul]
 omega
theorem yGn {w:World}{base:Nat}{e:TypeId}{size:Nat}{z:Array Value}{n c:Nat}{xs:List Value}(a:xs.length=n*size)(d:n<=c)(hm:c<=maxLen)(f:z.size=size)(b:base<=w.heap.size) :
  (w.drew.alloc (.cells (xs.toArray++Builtin.zeroCells z (c-n)) e)).ownsRow base e size (.slice (some ⟨w.heap.size,0,none⟩) n c) n xs:=by
 refine ⟨a,.inr ⟨w.heap.size,c,_,rfl,b,heap_alloc_new w.drew _,d,hm,?_,?_⟩⟩
 ·rw [Array.size_append,size_zeroCells,f,List.size_toArray,a,<- Nat.add_mul]
  congr 1
  omega
 ·rw [Array.toList_append,<- a];exact List.take_left
theorem qXw (w:World)(o:Obj)(r:Option Nat):w.grownBy (w.drew.alloc o) r:=⟨rfl,rfl,rfl,by simp,fun k a _=>heap_alloc_old w.drew o k a⟩

theorem yHe {w:World}{base g n m cap size:Nat}{e:TypeId}{c:Array Value}{xs a:List Value}(o:base<=g)(s:w.heap[g]? = some (.cells c e (0,0)))(b:n+m<=cap)(i:cap<=maxLen)(k:c.size=cap*size)(l:xs.length=n*size)(d:a.length=m*size) :
  (w.setRow g (xs++a++c.toList.drop (n*size+a.length)).toArray).ownsRow base e size (.slice (some ⟨g,0,none⟩) (n+m) cap) (n+m) (xs++a):=by
 have f:(xs++a).length=(n+m)*size:=by rw [List.length_append,l,d,Nat.add_mul]
 have u:(n+m)*size<=cap*size:=Nat.mul_le_mul_right size b
 have r:n*size+a.length=(n+m)*size:=by rw [d,Nat.add_mul]
 refine ⟨f,Or.inr ⟨g,cap,_,rfl,o,setRow_heap w g c _ e _ s,b,i,?_,?_⟩⟩
 ·rw [List.size_toArray,List.length_append,f,List.length_drop,Array.length_toList,k,r]
  omega
 ·rw [<- f];exact List.take_left' rfl
theorem yQl (w:World)(g:Nat)(cs:Array Value){n cap:Nat}:w.grownBy (w.setRow g cs) (Value.slice (some ⟨g,0,none⟩) n cap).ownBlock :=
 ⟨rfl,rfl,rfl,by simp,fun k _ a=>setRow_other w g k _ (fun e=>a (by rw [e];rfl))⟩

theorem qVk {P:Program}(w:World)(base:Nat)(t B e:TypeId)(i:TypeInfo)(z:Value)(size bytes:Nat)(E:P.underlying t=some (.slice e))(hi:P.info? e=some i)(K:i.zero=some z)(d:i.size=size)(A:i.bytes=bytes)(S:bytes<=8)(D:z.cells.size=size)(hsz:0<size)(v:Value)(n:Nat)(xs:List Value)(f:w.ownsRow base e size v n xs)(a:Addr)(m c:Nat)(b:List Value)(o:b.length=m*size)(k:∀ j u,b[j]? = some u->w.cell? (a.add j)=some u)(Q:∀ u∈b,u.oneCell'=true)(r:n+m<=maxLen)(y:(n+m)*bytes<=219902325555200)(l:base<=w.heap.size) :
  ∃ v' w',(Builtin.append_ #[t,t] B #[v,.slice (some a) m c]).run P w=.ok v' w'/\w'.ownsRow base e size v' (n+m) (xs++b)/\w.grownBy w' v.ownBlock/\(v'=.slice none 0 0↔v=.slice none 0 0/\m=0):=by
 by_cases hlow:(n+m)*bytes<=140737488355328
 ·exact run_append_own (P:=P) w base t B e i z size bytes E hi K d A D hsz v n xs f a m c b o k Q r hlow l
 ·have J:0<n+m:=by
   rcases Nat.eq_zero_or_pos (n+m) with h0|h0
   ·rw [h0] at hlow;simp at hlow
   ·exact h0
  have T:n+m<=9223372036854775807:=by unfold maxLen at r;omega
  have I:(xs++b).length=(n+m)*size:=by rw [List.length_append,f.1,o,Nat.add_mul]
  rcases f.2 with ⟨rfl,rfl⟩|⟨g,cap,R,rfl,M,O,U,L,G,F⟩
  ·obtain rfl:xs=[]:=List.eq_nil_of_length_eq_zero (by simpa using f.1);rw [Nat.zero_add] at *;have s:=run_append_nil (P:=P) w t B e i z E hi K a m c b (by rw [d];exact o) k J (by omega) (by rw [A];omega);exact ⟨_,_,s,yGn (z:=z.cells) o (grownCap_ge w m 0 e) (grownCap_le_maxLen w m 0 e r) D l,qXw _ _ _,by simp;omega⟩
  ·by_cases hroom:n+m<=cap
   ·have hm:(n+m)*size<=cap*size:=Nat.mul_le_mul_right size hroom;rw [Nat.add_mul] at hm;have s:=run_append_room (P:=P) w t B e i E hi g n cap R O a m c b (by rw [d];exact o) k Q hroom (by rw [d,o,G];exact hm);rw [d,F] at s;exact ⟨_,_,s,yHe M O hroom L G f.1 o,yQl w g _,by simp⟩
   ·have s:=run_append_grow (P:=P) w t B e i z E hi K ⟨g,0,none⟩ n cap xs (by rw [d];exact f.1) (f.cells (g:=g) rfl) a m c b (by rw [d];exact o) k (by omega) (by omega) (by rw [A];exact yOg (by omega) y S);have N:=yGn (w:=w) (e:=e) (z:=z.cells) I (grownCap_ge w (n+m) cap e) (grownCap_le_maxLen w (n+m) cap e r) D l
    have he:(xs++b).toArray=xs.toArray++b.toArray:=by simp
    rw [he] at N;exact ⟨_,_,s,N,qXw _ _ _,by simp⟩

theorem qPb {P:Program}(w:World){o:Oper}{a:Act}{K:Act->World->Prop}{Q:Exit->Act->World->Prop}(s x:Operand)(t:TypeId)(J:o.op=.call { callee:=.builtin .append,args:=#[s,x],argTypes:=#[t,t] })(base:Nat)(e:TypeId)(i:TypeInfo)(z:Value)(size bytes:Nat)(N:P.underlying t=some (.slice e))(hi:P.info? e=some i)(S:i.zero=some z)(l:i.size=size)(D:i.bytes=bytes)(E:z.cells.size=size)(hsz:0<size)(v:Value)(n:Nat)(xs:List Value)(F:a.eval s=v)(y:w.ownsRow base e size v n xs)(A:Addr)(m c:Nat)(b:List Value)(O:a.eval x=.slice (some A) m c)(M:b.length=m*size)(r:∀ j u,b[j]? = some u->w.cell? (A.add j)=some u)(R:∀ u∈b,u.oneCell'=true)(B:n+m<=maxLen)(d:(n+m)*bytes<=219902325555200)(k:base<=w.heap.size)(h:∀ g f,f.ownsRow base e size g (n+m) (xs++b)->w.grownBy f v.ownBlock->(g=.slice none 0 0↔v=.slice none 0 0/\m=0)->K (a.put o.dst g) f)(G:bytes<=8:=by decide):o.wp P a w K Q:=by
 obtain ⟨g,f,I,L,U,T⟩:=qVk (P:=P) w base t o.type e i z size bytes N hi S l D G E hsz v n xs y A m c b M r R B d k;unfold Oper.wp
 simp [execOp,J,resolve,invoke,builtin,F,O,I,Result.andThen]
 exact h g f L U T
end Go.Proofs.YtmdhljoicnommaaGreat
