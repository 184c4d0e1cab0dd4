/-
  Small facts for a row of instructions that grows. No condition.
-/
import Derived.Test.YteccmagbebghaaaDoorO2Slices
import Derived.Test.YteccmagbebghaaaDoorR3Text
namespace Go.Proofs.YteccmagbebghaaaDoor
open Go.RowKit
set_option linter.unusedVariables false
set_option maxRecDepth 100000

theorem one_inst (w : World) (e : TypeId) (i : In) (n : Nat) (hn : n = w.heap.size) : ∀ j u, (flat [i])[j]? = some u → (w.alloc (.cells #[.int .i64 i.op, .int .i64 i.d, .int .i64 i.a, .int .i64 i.b, .int .i64 i.imm] e)).cell? ((⟨n, 0, none⟩ : Addr).add j) = some u := by
  subst hn
  intro j u hu
  have hf : flat [i] = i.cells := by simp [flat]
  rw [hf] at hu
  rw [Addr.add_mid, Nat.zero_add, World.cell?_alloc_at _ _ _ _ rfl]
  simpa using hu
theorem Tryd.infoInst3 : (Tryd.prog.info? 32).map (fun i => (i.zero, i.size, i.bytes)) = some (some (instV 0 0 0 0 0), 5, 40) := by kernel_rfl
theorem ret3v {v : Value} {a a' b b' : Int} (h1 : a = a') (h2 : b = b') : Ending.returned (.tuple #[v, .int .i64 a, .int .i64 b]) = .returned (.tuple #[v, .int .i64 a', .int .i64 b']) := by rw [h1, h2]
theorem flat_app (a b : List In) : flat a ++ flat b = flat (a ++ b) := by simp [flat]
/-- How long a string is that a slot holds. -/
def strLen : Value → Nat
  | .string s => s.size
  | _ => 0
theorem strLen_str (l : List UInt8) : strLen (.string (str l)) = l.length := rfl
theorem parseF_last : ∀ (l acc : List UInt8) (is : List In), (∀ c ∈ l, c ≠ 10) → acc ++ l ≠ [] → parseF acc is l = ([], (is.length : Int) + 1, 20)
  | [], acc, is, _, hne => by simp only [parseF]; rw [if_neg (by simpa using hne)]
  | c :: l, acc, is, h, hne => by
    have hc : c ≠ 10 := h c (by simp)
    simp only [parseF, if_neg hc]
    exact parseF_last l (acc ++ [c]) is (fun x hx => h x (by simp [hx])) (by simp)
end Go.Proofs.YteccmagbebghaaaDoor
