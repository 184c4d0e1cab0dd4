/-
  What leb.Get does with any bytes: it answers what the plain function getL tells of them, and leaves memory as it was. Condition: the bytes lie where the slice says.
-/
import Derived.Test.YtbhiaclgakhcdaaRows
import Derived.Test.YtbhiaclgakhcdaaVPlain
import Derived.Test.YtbhiaclgakhcdaaWide
import Derived.WalkSpells
import Derived.OpenShut
namespace Go.Proofs.Ytbhiaclgakhcdaa
open Go.RowKit
set_option linter.unusedVariables false

/-- A slice that reads, in a world, as these numbers. -/
def Sees (k : IntKind) (w : World) (v : Value) (xs : List Int) : Prop :=
  ∃ a cap, v = .slice a xs.length cap ∧ xs.length ≤ cap ∧ cap ≤ maxLen ∧ (a = none → cap = 0) ∧ (∀ x ∈ xs, (Lit.int k x).wf = true) ∧
    (xs ≠ [] → ∃ b off, a = some ⟨b, off, none⟩ ∧ b < w.heap.size ∧ ∀ i, i < xs.length → w.cell? ⟨b, off + i, none⟩ = some (.int k (xs.getD i 0)))

theorem Sees.bytes {w : World} {v : Value} {xs : List Int} (h : Sees .u8 w v xs) : ∀ x ∈ xs, 0 ≤ x ∧ x ≤ 255 := by
  obtain ⟨a, cap, rfl, hl, hm, hn0, hw, hs⟩ := h
  exact fun x hx => bounds_u8 (hw x hx)

set_option maxHeartbeats 400000 in
theorem get_some (b off cap : Nat) (xs : List Int) (w : World) (hmax : xs.length ≤ 9223372036854775807)
    (hc : ∀ i, i < xs.length → w.cell? ⟨b, off + i, none⟩ = some (.int .u8 (xs.getD i 0)))
    (hr : ∀ x ∈ xs, 0 ≤ x ∧ x ≤ 255) :
    Calls Try.prog 15 #[.slice (some ⟨b, off, none⟩) xs.length cap] w fun e w' =>
      e = .returned (.tuple #[.int .u64 (getL 0 0 xs).1, .int .i64 (getL 0 0 xs).2.1, .int .i64 (getL 0 0 xs).2.2]) ∧ w = w' := by
  go_enter Try.func15, Try.ntmps15
  go_wp2
  go_loop [5, 10] (fun x i => ∃ (k : Nat) (X : Int), k ≤ xs.length ∧ k ≤ 9 ∧ i = .int .i64 k ∧ x = .int .u64 X ∧ 0 ≤ X ∧ X < 2 ^ (7 * k) ∧ getL 0 0 xs = getL k X (xs.drop k)) (fun _ i => xs.length - (intOf i).toNat)
  case atStart => exact ⟨0, 0, by omega, by omega, rfl, rfl, by omega, by simp, rfl⟩
  case round =>
    obtain ⟨k, X, hk, hk9, rfl, rfl, hX0, hX, hd⟩ := hrel
    have HX : Hid (X < 2 ^ (7 * k)) := hX
    clear hX
    by_cases hlt : k < xs.length
    · obtain ⟨c, hcell, hc0, hc1, HD⟩ : ∃ c, w.cell? ⟨b, off + k, none⟩ = some (.int .u8 c) ∧ 0 ≤ c ∧ c ≤ 255 ∧ Hid (getL 0 0 xs = getL k X (c :: xs.drop (k + 1))) :=
        ⟨_, hc k hlt, (hr _ (getD_mem xs k hlt)).1, (hr _ (getD_mem xs k hlt)).2, by rw [hd, drop_at xs k hlt]; rfl⟩
      clear hd hc hr
      by_cases hf : (k = 9 ∧ 1 < c) ∨ (0 < k ∧ c = 0)
      · have HE : Hid (getL 0 0 xs = (0, 0, 12)) := by rw [HD.out, getL_form hf]; rfl
        clear HD
        go_wp2
        all_goals first
          | (go_ret3; exact ⟨ret3 (by rw [HE.out]) (by rw [HE.out]) (by rw [HE.out]), rfl⟩)
          | (exfalso; have h : (c == 0) = false := by assumption
             have := WalkArith.int_ne h; omega)
          | (exfalso; omega)
      · have h1 : ¬ (k = 9 ∧ 1 < c) := fun h => hf (.inl h)
        have h2 : ¬ (0 < k ∧ c = 0) := fun h => hf (.inr h)
        have HO : Hid (bits .or .u64 X (IntKind.u64.wrap (c % 128 * 2 ^ (7 * k))) = X + c % 128 * 2 ^ (7 * k)) := or_add' X c k hX0 HX.out hc0 hc1 hk9 (by omega)
        clear hf
        by_cases h3 : c < 128
        · have HE : Hid (getL 0 0 xs = (X + c % 128 * 2 ^ (7 * k), (k : Int) + 1, 0)) := by rw [HD.out, getL_done h1 h2 h3]; rfl
          clear HD
          go_wp2
          all_goals first
            | (go_ret3; exact ⟨ret3 (by rw [HE.out]; exact HO.out) (by rw [HE.out]) (by rw [HE.out]), rfl⟩)
            | (go_ret3; obtain rfl : k = 9 := by omega
               exact ⟨ret3 (by rw [HE.out]; exact or9 X c hX0 HX.out hc0 (by omega)) (by rw [HE.out]; rfl) (by rw [HE.out]), rfl⟩)
            | (exfalso; have h : (c == 0) = true := by assumption
               have := WalkArith.int_eq h; omega)
            | (exfalso; omega)
        · have HE : Hid (getL 0 0 xs = getL (k + 1) (X + c % 128 * 2 ^ (7 * k)) (xs.drop (k + 1))) := by rw [HD.out, getL_more h1 h2 (by omega)]; rfl
          have HL : Hid (0 ≤ X + c % 128 * 2 ^ (7 * k) ∧ X + c % 128 * 2 ^ (7 * k) < 2 ^ (7 * (k + 1))) := or_lt X c k hX0 HX.out hc0 (by omega)
          clear HD
          go_wp2
          all_goals first
            | (go_round
               case rel => exact ⟨k + 1, X + c % 128 * 2 ^ (7 * k), by omega, by omega, by go_num, by rw [HO.out], HL.out.1, HL.out.2, HE.out⟩
               case measure => simp [intOf]; omega)
            | (exfalso; have h : (c == 0) = true := by assumption
               have := WalkArith.int_eq h; omega)
            | (exfalso; omega)
    · have HD : Hid (getL 0 0 xs = getL k X (xs.drop k)) := hd
      clear hd hc hr
      go_wp2
      go_ret3
      exact ⟨by rw [HD.out, List.drop_eq_nil_of_le (by omega)]; rfl, rfl⟩

/-- leb.Get of any slice of bytes. -/
theorem get_any (v : Value) (xs : List Int) (w : World) (h : Sees .u8 w v xs) :
    Calls Try.prog 15 #[v] w fun e w' =>
      e = .returned (.tuple #[.int .u64 (getL 0 0 xs).1, .int .i64 (getL 0 0 xs).2.1, .int .i64 (getL 0 0 xs).2.2]) ∧ w = w' := by
  obtain ⟨a, cap, rfl, hl, hm, hn0, hw, hs⟩ := h
  unfold maxLen at hm
  by_cases hne : xs = []
  · subst hne
    go_enter Try.func15, Try.ntmps15
    go_wp2
    refine wp_loop_rounds 1 ?_
    rw [rounds_succ]
    go_wp2
    go_ret3
    exact ⟨rfl, rfl⟩
  · obtain ⟨b, off, rfl, _, hc⟩ := hs hne
    exact get_some b off cap xs w (by omega) hc (fun x hx => bounds_u8 (hw x hx))
theorem get_eq {v : Value} {xs : List Int} {w : World} (h : Sees .u8 w v xs) {a b c : Int} (hr : getL 0 0 xs = (a, b, c)) :
    Calls Try.prog 15 #[v] w fun e w' => e = .returned (.tuple #[.int .u64 a, .int .i64 b, .int .i64 c]) ∧ w = w' := by
  have := get_any v xs w h; rw [hr] at this; exact this
end Go.Proofs.Ytbhiaclgakhcdaa
