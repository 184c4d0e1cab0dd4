/-
  S10Book3
  S10Book4
-/
import Derived.Test.YtmdhljoicnommaaGreatMS1
import Derived.Test.YtmdhljoicnommaaGreatMS28
namespace Go.Proofs.YtmdhljoicnommaaGreat
set_option maxHeartbeats 12800000
open Go.RowKit
set_option linter.unusedVariables false
set_option linter.unusedSimpArgs false
set_option maxRecDepth 100000
theorem Bk.chg {w b:World}{B c:Nat}{v:Value}{d:List Ak}{S:Nat->Prop}(h:Bk w B c v d)(a:Chg w b S)(f:¬ S c)(g:∀ k,v.ownBlock=some k->¬ S k):Bk b B c v d:=⟨h.hp.chg a f,own_chg h.row a g⟩
theorem Bk.drew {w:World}{B c:Nat}{v:Value}{a:List Ak}(h:Bk w B c v a):Bk w.drew B c v a:=⟨h.hp.drew,h.row⟩
theorem Chg.drew {w a:World}{S:Nat->Prop}(h:Chg w a S):Chg w a.drew S:=⟨h.os,h.tape,h.output,h.size,h.block⟩
theorem Chg.undrew {w a:World}{S:Nat->Prop}(h:Chg w.drew a S):Chg w a S:=⟨h.os,h.tape,h.output,h.size,h.block⟩
theorem Bk.below {w a:World}{B c:Nat}{v:Value}{d:List Ak}(h:Bk w B c v d)(b:Bw w a):Bk a B c v d:=⟨h.hp.below b h.hp.lt,qBa h.row b (Nat.le_refl _)⟩
end Go.Proofs.YtmdhljoicnommaaGreat
