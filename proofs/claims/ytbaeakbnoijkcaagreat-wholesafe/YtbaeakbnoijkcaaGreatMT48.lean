
/-
 The machine of the theorems of the whole: its step, whatever the instruction. Condition: its code is judged good.
-/
import Derived.Test.YtbaeakbnoijkcaaGreatMT44
import Derived.Test.YtbaeakbnoijkcaaGreatMT45
import Derived.Test.YtbaeakbnoijkcaaGreatMT46
import Derived.Test.YtbaeakbnoijkcaaGreatMT47
namespace Go.Proofs.YtbaeakbnoijkcaaGreat
open Go.RowKit
set_option linter.unusedVariables false
set_option linter.unusedSimpArgs false
set_option maxRecDepth 100000

section
variable {b : Nat} {vm : Value} {ev : Int × Int} {M : Mc}
theorem xstep_any {cb co ccap : Nat} {ms : List Int} {xs : List In} {known : List St} (cnt : Int) (w : World) (h : Xa w b vm (.slice (some ⟨cb, co, none⟩) xs.length ccap) ev M) (hm : Sees .i64 w vm ms) (hmb : ms = [] ∨ vm.ownBlock ≠ some b) (hx : SeesI w (.slice (some ⟨cb, co, none⟩) xs.length ccap) xs) (hcb' : cb ≠ b) (hKn : Known xs ms.length known) (hS : Safe xs ms.length known M) (hm0 : M.mode = 0) (hev : (0 <= ev.1 /\ ev.1 <= 18446744073709551615) /\ 0 <= ev.2 /\ ev.2 <= 18446744073709551615) (hcnt : (nth xs M.pc).op = 21 -> (nth xs M.pc).imm = 5 -> cnt = upW (M.cs.getD (regV M.regs 1).toNat 0) 1) (hcn : 0 <= cnt /\ cnt <= 18446744073709551615) :
  Calls Tryz.prog 12 #[.pointer (some ⟨b, 0, none⟩), .int .u64 cnt] w fun e w' => e = .returned (acV (stepE ms xs ev M).1) /\ Chg w w' (fun k => k = b) /\ Xa w' b vm (.slice (some ⟨cb, co, none⟩) xs.length ccap) ev (stepE ms xs ev M).2 := by
 have hop := qAt (hKn.T.right hS.pc)
 by_cases h1 : (nth xs M.pc).op <= 14
 ·exact xstepA cnt w h hm hmb hx hcb' hKn hS hm0 hev hcnt h1 hcn
 by_cases h2 : (nth xs M.pc).op <= 20
 ·exact xstepB cnt w h hm hmb hx hcb' hKn hS hm0 hev hcnt ⟨by omega, h2⟩ hcn
 by_cases h3 : (nth xs M.pc).op = 21 /\ (nth xs M.pc).imm <= 4
 ·exact xstepC cnt w h hm hmb hx hcb' hKn hS hm0 hev hcnt h3 hcn
 ·exact xstepD cnt w h hm hmb hx hcb' hKn hS hm0 hev hcnt (by omega) hcn
end
end Go.Proofs.YtbaeakbnoijkcaaGreat
