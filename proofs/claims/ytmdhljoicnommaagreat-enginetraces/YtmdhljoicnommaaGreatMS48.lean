
/-
 The law's small and awake: the document's examples,by the landed judge's contracts. No condition.
-/
import Derived.Test.YtmdhljoicnommaaGreatMS47
import Derived.Test.YtmdhljoicnommaaGreatMS35
namespace Go.Proofs.YtmdhljoicnommaaGreat
set_option maxHeartbeats 12800000
open Go.RowKit
set_option linter.unusedVariables false
set_option linter.unusedSimpArgs false
set_option maxRecDepth 100000

theorem seesI_lit (w:World)(t:TypeId)(xs:List In)(cs:Array Value)(n g:Nat)(b:g=w.heap.size)(a:cs=(flat xs).toArray)(c:n=xs.length)(hm:xs.length<=1048576):SeesI (w.alloc (.cells cs t)) (.slice (some ⟨g,0,none⟩) n n) xs:=by
 subst c a b;refine own_seesI (base:=w.heap.size) (e:=t) ⟨flat_len xs,.inr ⟨w.heap.size,xs.length,(flat xs).toArray,rfl,Nat.le_refl _,heap_alloc_new w _,Nat.le_refl _,by unfold maxLen;omega,by rw [List.size_toArray,flat_len],?_⟩⟩;rw [<- flat_len];simp
theorem ljudge_as {a b:Value}{ms:List Int}{xs:List In}{w:World}(hm:Sees .i64 w a ms)(i:SeesI w b xs){P E:Int}(h:Hid (judgeR ms xs=(P,E))):Cl 23 #[.agg #[a,b]] w fun e c=>e=.returned (.tuple #[I4 P,I4 E])/\Bw w c:=by
 refine (ljudge_any a ms b xs w hm i).mono ?_;rintro e c ⟨n,l,d,_,_,rfl,f⟩;rw [h.out] at d;injection d with k g;subst k g;exact ⟨rfl,f⟩
end Go.Proofs.YtmdhljoicnommaaGreat
