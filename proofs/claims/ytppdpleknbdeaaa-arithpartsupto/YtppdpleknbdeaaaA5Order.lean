/-
  A fold goes on where a fold of the first ones ended; sums, products, and, or, xor don't depend on the order: plain lists. No condition.
-/
import Derived.Test.YtppdpleknbdeaaaA5FoldsW
namespace Go.Proofs.Ytppdpleknbdeaaa
open Go.RowKit
set_option linter.unusedVariables false

theorem isOp_of {op : Int} (h : 1 ≤ op ∧ op ≤ 10) : isOp op = true := decide_eq_true h
theorem foldL_red {op : Int} (h : 1 ≤ op ∧ op ≤ 10) (xs : List Int) : foldL op xs = redL op xs := by unfold foldL; rw [isOp_of h]; rfl
theorem foldB_some {op : Int} (h : 1 ≤ op ∧ op ≤ 10) {xs : List Int} (hne : xs ≠ []) : true = foldB op xs := by
  unfold foldB
  rw [isOp_of h]
  cases xs with
  | nil => exact absurd rfl hne
  | cons x r => rfl
theorem foldL_in {op : Int} (xs : List Int) (h : ∀ x ∈ xs, W64 x) : W64 (foldL op xs) := by
  unfold foldL
  split
  · cases xs with
    | nil => show W64 0; exact ⟨by decide, by decide⟩
    | cons x r => exact foldl_in op r x (h x (by simp)) (fun y hy => h y (by simp [hy]))
  · exact ⟨by decide, by decide⟩
theorem foldL_app {op : Int} (h : 1 ≤ op ∧ op ≤ 10) {xs : List Int} (hne : xs ≠ []) (ys : List Int) : foldL op (xs ++ ys) = foldL op (foldL op xs :: ys) := by
  rw [foldL_red h, foldL_red h, foldL_red h]
  cases xs with
  | nil => exact absurd rfl hne
  | cons x r => show (r ++ ys).foldl (doL op) x = ys.foldl (doL op) (r.foldl (doL op) x); rw [List.foldl_append]

theorem foldl_pull {f : Int → Int → Int} (ha : ∀ a b c, f (f a b) c = f a (f b c)) : ∀ (r : List Int) (x y : Int), r.foldl f (f x y) = f x (r.foldl f y)
  | [], _, _ => rfl
  | z :: r, x, y => by
    show r.foldl f (f (f x y) z) = f x (r.foldl f (f y z))
    rw [ha, foldl_pull ha r x (f y z)]
theorem red_rev {op : Int} (ha : ∀ a b c, doL op (doL op a b) c = doL op a (doL op b c)) (hc : ∀ a b, doL op a b = doL op b a) : ∀ xs : List Int, redL op xs.reverse = redL op xs
  | [] => rfl
  | [x] => rfl
  | x :: y :: r => by
    have ih := red_rev ha hc (y :: r)
    rw [List.reverse_cons]
    have e : ∀ (l : List Int) (z : Int), l ≠ [] → redL op (l ++ [z]) = doL op (redL op l) z := by
      intro l z hl
      cases l with
      | nil => exact absurd rfl hl
      | cons u t => show (t ++ [z]).foldl (doL op) u = doL op (t.foldl (doL op) u) z; rw [List.foldl_append]; rfl
    rw [e _ _ (by simp), ih]
    show doL op (r.foldl (doL op) y) x = r.foldl (doL op) (doL op x y)
    rw [foldl_pull ha r x y, hc]
theorem free_ops {op : Int} (h : op = 1 ∨ op = 3 ∨ op = 6 ∨ op = 7 ∨ op = 8) : (∀ a b c, doL op (doL op a b) c = doL op a (doL op b c)) ∧ (∀ a b, doL op a b = doL op b a) := by
  rcases h with rfl | rfl | rfl | rfl | rfl
  · refine ⟨fun a b c => ?_, fun a b => ?_⟩
    · show ((a + b) % 18446744073709551616 + c) % 18446744073709551616 = (a + (b + c) % 18446744073709551616) % 18446744073709551616
      omega
    · show (a + b) % 18446744073709551616 = (b + a) % 18446744073709551616
      rw [Int.add_comm]
  · refine ⟨fun a b c => ?_, fun a b => ?_⟩
    · show a * b % 18446744073709551616 * c % 18446744073709551616 = a * (b * c % 18446744073709551616) % 18446744073709551616
      rw [Int.mul_emod, Int.emod_emod, ← Int.mul_emod, Int.mul_assoc, Int.mul_emod a (b * c % 18446744073709551616), Int.emod_emod, ← Int.mul_emod]
    · show a * b % 18446744073709551616 = b * a % 18446744073709551616
      rw [Int.mul_comm]
  · refine ⟨fun a b c => ?_, fun a b => ?_⟩
    · show bits .and .u64 (bits .and .u64 a b) c = bits .and .u64 a (bits .and .u64 b c)
      rw [and_bv, and_bv, and_bv, and_bv, bv_nat, bv_nat, BitVec.and_assoc]
    · show bits .and .u64 a b = bits .and .u64 b a
      rw [and_bv, and_bv, BitVec.and_comm]
  · refine ⟨fun a b c => ?_, fun a b => ?_⟩
    · show bits .or .u64 (bits .or .u64 a b) c = bits .or .u64 a (bits .or .u64 b c)
      rw [or_bv, or_bv, or_bv, or_bv, bv_nat, bv_nat, BitVec.or_assoc]
    · show bits .or .u64 a b = bits .or .u64 b a
      rw [or_bv, or_bv, BitVec.or_comm]
  · refine ⟨fun a b c => ?_, fun a b => ?_⟩
    · show bits .xor .u64 (bits .xor .u64 a b) c = bits .xor .u64 a (bits .xor .u64 b c)
      rw [xor_bv, xor_bv, xor_bv, xor_bv, bv_nat, bv_nat, BitVec.xor_assoc]
    · show bits .xor .u64 a b = bits .xor .u64 b a
      rw [xor_bv, xor_bv, BitVec.xor_comm]
theorem foldL_rev {op : Int} (h : op = 1 ∨ op = 3 ∨ op = 6 ∨ op = 7 ∨ op = 8) (xs : List Int) : foldL op xs.reverse = foldL op xs := by
  unfold foldL
  rw [red_rev (free_ops h).1 (free_ops h).2]
end Go.Proofs.Ytppdpleknbdeaaa
