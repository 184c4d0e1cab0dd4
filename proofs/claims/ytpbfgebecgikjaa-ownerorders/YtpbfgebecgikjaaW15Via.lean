
/-
  Calls through the shard's interface, for layer 15's laws. No condition.
-/
import Derived.Test.YtpbfgebecgikjaaC15Sh
namespace Go.Proofs.Ytpbfgebecgikjaa
open Go.RowKit
set_option linter.unusedVariables false
set_option linter.unusedSimpArgs false
set_option maxRecDepth 100000

theorem Via.fix {w : World} {t : TypeId} {u x : Value} {name : String} {f : FuncId} (h : Via w (.iface t u) name f x) : (∀ fuel, (method (fuel + 1) t u name).run Try.prog w = .ok (f, x) w) ∧ ∀ xs w', (callFunc f xs).run Try.prog w' = .ok (.enter f xs) w' := by
  obtain ⟨t', u', ev, h1, h2⟩ := h
  injection ev with e1 e2
  subst e1 e2
  exact ⟨h1, h2⟩
theorem ahead_book (fuel : Nat) (a : Addr) (w : World) : (nilAhead (fuel + 1) 105 (.pointer (some a)) "Do").run Try.prog w = .ok (some false) w := by kernel_rfl
theorem ahead_lru (fuel : Nat) (a : Addr) (w : World) : (nilAhead (fuel + 1) 108 (.pointer (some a)) "Do").run Try.prog w = .ok (some false) w := by kernel_rfl
end Go.Proofs.Ytpbfgebecgikjaa
