
/-
 The law's small and awake: the document's examples,by the landed judge's contracts. No condition.
-/
import Derived.Test.YtmdhljoicnommaaGreatME46
import Derived.Test.YtmdhljoicnommaaGreatME35
namespace Go.Proofs.YtmdhljoicnommaaGreat
set_option maxHeartbeats 12800000
open Go.RowKit
set_option linter.unusedVariables false
set_option linter.unusedSimpArgs false
set_option maxRecDepth 100000

theorem yPm (w:World)(t:TypeId)(xs:List In)(cs:Array Value)(n g:Nat)(b:g=w.heap.size)(a:cs=(qGb xs).toArray)(c:n=xs.length)(hm:xs.length<=1048576):SeesI (w.alloc (.cells cs t)) (.slice (some ⟨g,0,none⟩) n n) xs:=by
 subst c a b;refine qSe (base:=w.heap.size) (e:=t) ⟨qLr xs,.inr ⟨w.heap.size,xs.length,(qGb xs).toArray,rfl,Nat.le_refl _,heap_alloc_new w _,Nat.le_refl _,by unfold maxLen;omega,by rw [List.size_toArray,qLr],?_⟩⟩;rw [<- qLr];simp
theorem qXz {vm a:Value}{ms:List Int}{xs:List In}{w:World}(hm:Sees .i64 w vm ms)(g:SeesI w a xs){P E:Int}(h:Hid (qFq ms xs=(P,E))):Cl 23 #[.agg #[vm,a]] w fun e b=>e=.returned (.tuple #[I4 P,I4 E])/\Bw w b:=by
 refine (yLe vm ms a xs w hm g).mono ?_;rintro e b ⟨l,k,c,_,_,rfl,d⟩;rw [h.out] at c;injection c with i f;subst i f;exact ⟨rfl,d⟩
end Go.Proofs.YtmdhljoicnommaaGreat
