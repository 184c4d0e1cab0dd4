
/-
 Append to the call's own row,with a wider bound than 2^47 bytes: what a grown row takes is at most a quarter and a little more than what is wanted. Condition: at most 219902325555200 bytes wanted,elements of at most 8 bytes.
-/
import Derived.Laws.AppendOwn
import Derived.Laws.OwnMore
import Derived.ProofKit
namespace Go.Proofs.YtmdhljoicnommaaGreat
set_option maxHeartbeats 12800000
open Go.RowKit
set_option linter.unusedVariables false

theorem next_quarter {a b:Nat}(h:b<a):Builtin.nextslicecap a b<=a+a / 4+512:=by
 unfold Builtin.nextslicecap
 split
 ·omega
 ·split
  ·omega
  ·rw [growBy_four]
   repeat' split
   all_goals omega
theorem next_fits {a b bytes:Nat}(h:b<a)(d:a*bytes<=219902325555200)(l:bytes<=8):Builtin.nextslicecap a b*bytes<=281474976710656:=by
 have i:Builtin.nextslicecap a b*bytes<=(a+a / 4+512)*bytes:=Nat.mul_le_mul_right _ (next_quarter h);have c:a / 4*4<=a:=Nat.div_mul_le_self a 4;have g:a / 4*4*bytes<=a*bytes:=Nat.mul_le_mul_right _ c
 have f:a / 4*4*bytes=4*(a / 4*bytes):=by rw [Nat.mul_comm (a / 4) 4,Nat.mul_assoc]
 have k:(a+a / 4+512)*bytes=a*bytes+a / 4*bytes+512*bytes:=by rw [Nat.add_mul,Nat.add_mul]
 omega
theorem own_new {w:World}{base:Nat}{e:TypeId}{size:Nat}{z:Array Value}{n c:Nat}{xs:List Value}(a:xs.length=n*size)(b:n<=c)(hm:c<=maxLen)(d:z.size=size)(f:base<=w.heap.size) :
  (w.drew.alloc (.cells (xs.toArray++Builtin.zeroCells z (c-n)) e)).ownsRow base e size (.slice (some ⟨w.heap.size,0,none⟩) n c) n xs:=by
 refine ⟨a,.inr ⟨w.heap.size,c,_,rfl,f,heap_alloc_new w.drew _,b,hm,?_,?_⟩⟩
 ·rw [Array.size_append,size_zeroCells,d,List.size_toArray,a,<- Nat.add_mul]
  congr 1
  omega
 ·rw [Array.toList_append,<- a];exact List.take_left
theorem grown_new (w:World)(o:Obj)(r:Option Nat):w.grownBy (w.drew.alloc o) r:=⟨rfl,rfl,rfl,by simp,fun k a _=>heap_alloc_old w.drew o k a⟩

theorem own_filled {w:World}{base g n m cap size:Nat}{e:TypeId}{b:Array Value}{xs a:List Value}(r:base<=g)(o:w.heap[g]? = some (.cells b e (0,0)))(c:n+m<=cap)(k:cap<=maxLen)(i:b.size=cap*size)(l:xs.length=n*size)(d:a.length=m*size) :
  (w.setRow g (xs++a++b.toList.drop (n*size+a.length)).toArray).ownsRow base e size (.slice (some ⟨g,0,none⟩) (n+m) cap) (n+m) (xs++a):=by
 have f:(xs++a).length=(n+m)*size:=by rw [List.length_append,l,d,Nat.add_mul]
 have u:(n+m)*size<=cap*size:=Nat.mul_le_mul_right size c
 have s:n*size+a.length=(n+m)*size:=by rw [d,Nat.add_mul]
 refine ⟨f,Or.inr ⟨g,cap,_,rfl,r,setRow_heap w g b _ e _ o,c,k,?_,?_⟩⟩
 ·rw [List.size_toArray,List.length_append,f,List.length_drop,Array.length_toList,i,s]
  omega
 ·rw [<- f];exact List.take_left' rfl
theorem grown_row (w:World)(g:Nat)(cs:Array Value){n cap:Nat}:w.grownBy (w.setRow g cs) (Value.slice (some ⟨g,0,none⟩) n cap).ownBlock :=
 ⟨rfl,rfl,rfl,by simp,fun k _ a=>setRow_other w g k _ (fun e=>a (by rw [e];rfl))⟩

theorem run_append_wide {P:Program}(w:World)(base:Nat)(t A e:TypeId)(i:TypeInfo)(z:Value)(size bytes:Nat)(E:P.underlying t=some (.slice e))(hi:P.info? e=some i)(I:i.zero=some z)(d:i.size=size)(y:i.bytes=bytes)(T:bytes<=8)(D:z.cells.size=size)(hsz:0<size)(v:Value)(n:Nat)(xs:List Value)(f:w.ownsRow base e size v n xs)(a:Addr)(m c:Nat)(b:List Value)(o:b.length=m*size)(k:∀ j u,b[j]? = some u->w.cell? (a.add j)=some u)(R:∀ u∈b,u.oneCell'=true)(r:n+m<=maxLen)(B:(n+m)*bytes<=219902325555200)(l:base<=w.heap.size) :
  ∃ v' w',(Builtin.append_ #[t,t] A #[v,.slice (some a) m c]).run P w=.ok v' w'/\w'.ownsRow base e size v' (n+m) (xs++b)/\w.grownBy w' v.ownBlock/\(v'=.slice none 0 0↔v=.slice none 0 0/\m=0):=by
 by_cases hlow:(n+m)*bytes<=140737488355328
 ·exact run_append_own (P:=P) w base t A e i z size bytes E hi I d y D hsz v n xs f a m c b o k R r hlow l
 ·have J:0<n+m:=by
   rcases Nat.eq_zero_or_pos (n+m) with h0|h0
   ·rw [h0] at hlow;simp at hlow
   ·exact h0
  have S:n+m<=9223372036854775807:=by unfold maxLen at r;omega
  have K:(xs++b).length=(n+m)*size:=by rw [List.length_append,f.1,o,Nat.add_mul]
  rcases f.2 with ⟨rfl,rfl⟩|⟨g,cap,M,rfl,Q,O,U,L,G,F⟩
  ·obtain rfl:xs=[]:=List.eq_nil_of_length_eq_zero (by simpa using f.1);rw [Nat.zero_add] at *;have s:=run_append_nil (P:=P) w t A e i z E hi I a m c b (by rw [d];exact o) k J (by omega) (by rw [y];omega);exact ⟨_,_,s,own_new (z:=z.cells) o (grownCap_ge w m 0 e) (grownCap_le_maxLen w m 0 e r) D l,grown_new _ _ _,by simp;omega⟩
  ·by_cases hroom:n+m<=cap
   ·have hm:(n+m)*size<=cap*size:=Nat.mul_le_mul_right size hroom;rw [Nat.add_mul] at hm;have s:=run_append_room (P:=P) w t A e i E hi g n cap M O a m c b (by rw [d];exact o) k R hroom (by rw [d,o,G];exact hm);rw [d,F] at s;exact ⟨_,_,s,own_filled Q O hroom L G f.1 o,grown_row w g _,by simp⟩
   ·have s:=run_append_grow (P:=P) w t A e i z E hi I ⟨g,0,none⟩ n cap xs (by rw [d];exact f.1) (f.cells (g:=g) rfl) a m c b (by rw [d];exact o) k (by omega) (by omega) (by rw [y];exact next_fits (by omega) B T);have N:=own_new (w:=w) (e:=e) (z:=z.cells) K (grownCap_ge w (n+m) cap e) (grownCap_le_maxLen w (n+m) cap e r) D l
    have he:(xs++b).toArray=xs.toArray++b.toArray:=by simp
    rw [he] at N;exact ⟨_,_,s,N,grown_new _ _ _,by simp⟩

theorem wp_append_wide {P:Program}(w:World){o:Oper}{a:Act}{K:Act->World->Prop}{Q:Exit->Act->World->Prop}(s x:Operand)(t:TypeId)(J:o.op=.call { callee:=.builtin .append,args:=#[s,x],argTypes:=#[t,t] })(base:Nat)(e:TypeId)(i:TypeInfo)(z:Value)(size bytes:Nat)(G:P.underlying t=some (.slice e))(hi:P.info? e=some i)(F:i.zero=some z)(k:i.size=size)(B:i.bytes=bytes)(D:z.cells.size=size)(hsz:0<size)(v:Value)(n:Nat)(xs:List Value)(S:a.eval s=v)(y:w.ownsRow base e size v n xs)(A:Addr)(m c:Nat)(b:List Value)(R:a.eval x=.slice (some A) m c)(I:b.length=m*size)(r:∀ j u,b[j]? = some u->w.cell? (A.add j)=some u)(O:∀ u∈b,u.oneCell'=true)(E:n+m<=maxLen)(d:(n+m)*bytes<=219902325555200)(l:base<=w.heap.size)(h:∀ f g,g.ownsRow base e size f (n+m) (xs++b)->w.grownBy g v.ownBlock->(f=.slice none 0 0↔v=.slice none 0 0/\m=0)->K (a.put o.dst f) g)(U:bytes<=8:=by decide):o.wp P a w K Q:=by
 obtain ⟨f,g,L,M,T,N⟩:=run_append_wide (P:=P) w base t o.type e i z size bytes G hi F k B U D hsz v n xs y A m c b I r O E d l;unfold Oper.wp
 simp [execOp,J,resolve,invoke,builtin,S,R,L,Result.andThen]
 exact h f g M T N
end Go.Proofs.YtmdhljoicnommaaGreat
