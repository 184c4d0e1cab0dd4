/-
  What arith.Fold and the document's Fold answer: the plain fold from the left (foldL), and whether there is one; memory stays. Condition: numbers of 64 bits lie where the slice says.
-/
import Derived.Test.YtppdpleknbdeaaaA5RAll
import Derived.Test.YtppdpleknbdeaaaGKit
namespace Go.Proofs.Ytppdpleknbdeaaa
open Go.RowKit
set_option linter.unusedVariables false

theorem Try.info64 : (Try.prog.info? 22).map (fun i => (i.zero, i.size, i.bytes)) = some (some (.int .u64 0), 1, 8) := by kernel_rfl
theorem size_u64 (w : World) : (Go.sizeOf 22).run Try.prog w = .ok 1 w := by
  obtain ⟨i0, hi, hz0, hz1, hz2⟩ := info_parts Try.info64
  simp [Go.sizeOf, typeInfo, hi, hz1]

def W64 (x : Int) : Prop := 0 ≤ x ∧ x ≤ 18446744073709551615
theorem doL_in (op : Int) {a b : Int} (ha : W64 a) (hb : W64 b) : W64 (doL op a b) := by
  have hp := pow_pos_int (min b.toNat 64)
  have h1 := bits_le .and a b
  have h2 := bits_le .or a b
  have h3 := bits_le .xor a b
  have h4 : 0 ≤ a / b ∧ a / b ≤ a := ⟨Int.ediv_nonneg ha.1 hb.1, Int.ediv_le_self _ ha.1⟩
  have h5 : 0 ≤ a % b ∧ a % b ≤ a := by
    by_cases h : b = 0
    · subst h; simp; exact ha.1
    · have := hb.1
      have hm := Int.emod_nonneg a h
      have := Int.ediv_mul_add_emod a b
      have : 0 ≤ a / b * b := Int.mul_nonneg h4.1 hb.1
      omega
  have h6 : 0 ≤ a / 2 ^ min b.toNat 64 ∧ a / 2 ^ min b.toNat 64 ≤ a := ⟨Int.ediv_nonneg ha.1 (by omega), Int.ediv_le_self _ ha.1⟩
  unfold W64 at *
  unfold doL
  generalize a * 2 ^ min b.toNat 64 = y
  generalize a * b = z
  repeat' split
  all_goals omega
/-- From the left. -/
def redL (op : Int) : List Int → Int
  | [] => 0
  | x :: r => r.foldl (doL op) x
def foldL (op : Int) (xs : List Int) : Int := if isOp op = true then redL op xs else 0
def foldB (op : Int) (xs : List Int) : Bool := isOp op && !xs.isEmpty
theorem foldl_in (op : Int) : ∀ (r : List Int) (x : Int), W64 x → (∀ y ∈ r, W64 y) → W64 (r.foldl (doL op) x)
  | [], _, hx, _ => hx
  | y :: r, x, hx, h => foldl_in op r _ (doL_in op hx (h y (by simp))) (fun z hz => h z (by simp [hz]))
theorem foldl_take (op x : Int) (r : List Int) (k : Nat) (h : k < r.length) : (r.take (k + 1)).foldl (doL op) x = doL op ((r.take k).foldl (doL op) x) (r.getD k 0) := by
  rw [take_at r k h, List.foldl_append]; rfl

theorem fold_end {op : Int} {xs : List Int} {x : Int} {c : Bool} (h1 : x = foldL op xs) (h2 : c = foldB op xs) : Ending.returned (.tuple #[.int .u64 x, .bool c]) = .returned (.tuple #[.int .u64 (foldL op xs), .bool (foldB op xs)]) := ret2 h1 h2

theorem fold_some (op : Int) (b off cap : Nat) (x : Int) (r : List Int) (w : World) (ho : isOp op = true) (hx : W64 x) (hr : ∀ y ∈ r, W64 y) (hm : r.length + 1 ≤ cap) (hm2 : cap ≤ maxLen) (hb : b < w.heap.size)
    (h0 : w.cell? ⟨b, off, none⟩ = some (.int .u64 x)) (hc : ∀ i, i < r.length → w.cell? ⟨b, off + 1 + i, none⟩ = some (.int .u64 (r.getD i 0))) :
    Calls Try.prog 13 #[.int .i64 op, .slice (some ⟨b, off, none⟩) (r.length + 1) cap] w fun e w' =>
      e = .returned (.tuple #[.int .u64 (r.foldl (doL op) x), .bool true]) ∧ w = w' := by
  have HC : Hid (∀ i, i < r.length → w.cell? ⟨b, off + 1 + i, none⟩ = some (.int .u64 (r.getD i 0))) := hc
  have HW : Hid (∀ y ∈ r, W64 y) := hr
  clear hc hr
  unfold maxLen at hm2
  obtain ⟨V, hV, HV⟩ : ∃ V, (∀ wx, (Instr.slice 32 (.slice (some ⟨b, off, none⟩) (r.length + 1) cap) (some (.int .i64 1)) none none).run Try.prog wx = .ok V wx) ∧ Hid (V = .slice (if cap = 1 then some ⟨b, off, none⟩ else some ⟨b, off + 1, none⟩) r.length (cap - 1)) := by
    refine ⟨_, run_from Try.underlying32 size_u64 (some ⟨b, off, none⟩) (r.length + 1) cap 1 (by omega), ?_⟩
    show cutV _ _ _ _ = _
    unfold cutV
    simp [add_none]
  have hor := hx
  unfold W64 at hx
  by_cases hcap : cap = 1
  · obtain rfl : r = [] := List.eq_nil_of_length_eq_zero (by omega)
    subst hcap
    have hV1 := HV.out
    rw [if_pos rfl] at hV1
    subst hV1
    clear HV HC HW
    simp only [List.length_nil] at *
    go_enter Try.func13, Try.ntmps13
    go_wp2_with (go_at_call 9; refine (do_any _ _ _ _ (by omega) (by omega)).mono ?_; rintro e w' ⟨rfl, rfl⟩)
    refine wp_loop_rounds 1 ?_
    rw [rounds_succ]
    go_wp2
    go_ret2
    exact ⟨rfl, rfl⟩
  · have hV1 := HV.out
    rw [if_neg hcap] at hV1
    subst hV1
    clear HV
    have hne0 : (((r.length : Int) + 1) == 0) = false := by
      have : (r.length : Int) + 1 ≠ 0 := by omega
      simpa using this
    go_enter Try.func13, Try.ntmps13
    go_wp2_with (go_at_call 9; refine (do_any _ _ _ _ (by omega) (by omega)).mono ?_; rintro e w' ⟨rfl, rfl⟩)
    go_loop [8, 29] (fun n i => ∃ (k : Nat) (N : Int), k ≤ r.length ∧ i = .int .i64 k ∧ n = .int .u64 N ∧ 0 ≤ N ∧ N ≤ 18446744073709551615 ∧ N = (r.take k).foldl (doL op) x) (fun _ i => r.length - (intOf i).toNat)
    case atStart => exact ⟨0, x, by omega, rfl, rfl, by omega, by omega, rfl⟩
    case round =>
      obtain ⟨k, N, hk, rfl, rfl, hN0, hN1, hN⟩ := hrel
      have HN : Hid (N = (r.take k).foldl (doL op) x) := hN
      clear hN
      by_cases hlt : k < r.length
      · obtain ⟨c, hcell, hc0, hc1, HD⟩ : ∃ c, w.cell? ⟨b, off + 1 + k, none⟩ = some (.int .u64 c) ∧ 0 ≤ c ∧ c ≤ 18446744073709551615 ∧ Hid (doL op N c = (r.take (k + 1)).foldl (doL op) x) :=
          ⟨_, HC.out k hlt, (HW.out _ (getD_mem r k hlt)).1, (HW.out _ (getD_mem r k hlt)).2, by rw [foldl_take op x r k hlt, HN.out]; rfl⟩
        have hin := doL_in op (a := N) (b := c) ⟨hN0, hN1⟩ ⟨hc0, hc1⟩
        have HI : Hid (W64 (doL op N c)) := hin
        clear hin HN
        go_wp2_with (go_at_call 9; refine (do_any _ _ _ _ (by omega) (by omega)).mono ?_; rintro e w' ⟨rfl, rfl⟩)
        go_round
        case rel => exact ⟨k + 1, _, by omega, by go_num, rfl, HI.out.1, HI.out.2, HD.out⟩
        case measure => simp [intOf]; omega
      · have HE : Hid (N = r.foldl (doL op) x) := by
          have h := HN.out
          rw [List.take_of_length_le (by omega)] at h
          exact h
        clear HN
        go_wp2
        go_ret2
        exact ⟨ret2 HE.out rfl, rfl⟩
end Go.Proofs.Ytppdpleknbdeaaa
