/-
  What the project's Right does to no instruction, to one, to any slice of them. No condition beyond the numbers' kinds.
-/
import Derived.Test.YtfmibjgihicedaaO2Rights
namespace Go.Proofs.Ytfmibjgihicedaa
open Go.RowKit
set_option linter.unusedVariables false

theorem box_size {w w1 : World} {o : Obj} (h : Below (w.alloc o).heap.size (w.alloc o) w1) : w.heap.size < w1.heap.size := by
  have h1 := h.size
  rw [World.size_alloc] at h1
  omega
theorem rights_none (a : Option Addr) (cap : Nat) (w : World) : Calls Try.prog 36 #[.slice a 0 cap] w fun e w' => e = .returned (.bool true) ∧ w = w' := by
  go_enter Try.func36, Try.ntmps36
  go_wp2_with fail
  go_loopw [8] (fun i wr => i = .int .i64 0 ∧ w = wr) (fun i _ => 0)
  case atStart => exact ⟨rfl, rfl⟩
  case round =>
    obtain ⟨rfl, rfl⟩ := hrel
    go_wp2
    go_ret
    exact ⟨rfl, rfl⟩
/-- Right of any slice of instructions. -/
theorem rights_any (v : Value) (xs : List In) (w : World) (h : SeesI w v xs) : Calls Try.prog 36 #[v] w fun e w' => e = .returned (.bool (xs.all In.right)) ∧ Below w.heap.size w w' := by
  obtain ⟨a, cap, rfl, hl, hm, hn, hs⟩ := h
  cases xs with
  | nil => exact (rights_none a cap w).mono fun e w' ⟨he, hw⟩ => ⟨he, hw ▸ Below.refl _ _⟩
  | cons x xs =>
    obtain ⟨b, off, rfl, hb, hat⟩ := hs (by simp)
    exact rights_some b off cap (x :: xs) w hl hm hb hat
/-- Right of one instruction, in the slice that the caller makes of it. -/
theorem right_one (op d a b imm : Int) (w : World) (n : Nat) (hn : n = w.heap.size) : Calls Try.prog 36 #[.slice (some ⟨n, 0, none⟩) 1 1] (w.alloc (instO op d a b imm)) fun e w' => e = .returned (.bool (rightB op d a b imm)) ∧ Below w.heap.size w w' := by
  subst hn
  refine (rights_some w.heap.size 0 1 [⟨op, d, a, b, imm⟩] (w.alloc (instO op d a b imm)) (by simp) (by unfold maxLen; omega) (by simp) ?_).mono ?_
  · intro k hk
    obtain rfl : k = 0 := by simp at hk; exact hk
    simp [At]
  · rintro e w' ⟨rfl, hb⟩
    exact ⟨r2b (by simp [In.right]), box_below hb⟩
end Go.Proofs.Ytfmibjgihicedaa
