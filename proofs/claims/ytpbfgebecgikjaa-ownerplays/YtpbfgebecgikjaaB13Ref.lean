
/-
  The document's book of layer 13: New, place, and the operations that change nothing. Condition: the book lies where the pointer says, its row is the call's own.
-/
import Derived.Test.YtpbfgebecgikjaaB13Plain
import Derived.Test.YtpbfgebecgikjaaGRes
import Derived.Deep.RegionHeld3
namespace Go.Proofs.Ytpbfgebecgikjaa
open Go.RowKit
set_option linter.unusedVariables false
set_option linter.unusedSimpArgs false
set_option maxRecDepth 100000

abbrev ppC (p : Pp) : List Value := [.int .u64 p.k, .int .u64 p.v]
theorem ppC_len (p : Pp) : (ppC p).length = 2 := rfl
/-- The document's book, at a block. -/
structure Rb (w : World) (B b cap : Nat) (v : Value) (L : List Pp) : Prop where
  hp : Hp w b 104 [.int .i64 cap, v]
  row : w.ownsRow B 80 2 v L.length (flatG ppC L)
theorem Rb.below {w w' : World} {B b cap : Nat} {v : Value} {L : List Pp} (h : Rb w B b cap v L) (hb : Below w.heap.size w w') : Rb w' B b cap v L := ⟨h.hp.below hb h.hp.lt, own_below h.row hb (Nat.le_refl _)⟩
theorem Rb.chg {w w' : World} {B b cap : Nat} {v : Value} {L : List Pp} {S : Nat → Prop} (h : Rb w B b cap v L) (hc : Chg w w' S) (h1 : ¬ S b) (h2 : ∀ k, v.ownBlock = some k → ¬ S k) : Rb w' B b cap v L := ⟨h.hp.chg hc h1, own_chg h.row hc h2⟩
theorem rnew_ok (n : Nat) (h1 : 1 ≤ n) (h2 : n ≤ 16) (w : World) : Calls Try.prog 34 #[.int .i64 n] w fun e w' => e = .returned (.tuple #[.pointer (some ⟨w.heap.size, 0, none⟩), .int .i64 0]) ∧ Hp w' w.heap.size 104 [.int .i64 n, .slice none 0 0] ∧ Below w.heap.size w w' ∧ w'.heap.size = w.heap.size + 1 := by
  have h1I : ¬ (n : Int) < 1 := by omega
  have h2I : ¬ (16 : Int) < n := by omega
  go_enter Try.func34, Try.ntmps34
  go_wp2
  go_ret2
  exact ⟨rfl, Hp.new w _ _, by go_grown, by simp⟩
theorem rnew_no (n : Int) (h : n < 1 ∨ 16 < n) (w : World) : Calls Try.prog 34 #[.int .i64 n] w fun e w' => e = .returned (.tuple #[.pointer none, .int .i64 2]) ∧ w = w' := by
  rcases h with h | h
  · go_enter Try.func34, Try.ntmps34
    go_wp2
    go_ret2
    exact ⟨rfl, rfl⟩
  · have h1 : ¬ n < 1 := by omega
    go_enter Try.func34, Try.ntmps34
    go_wp2
    go_ret2
    exact ⟨rfl, rfl⟩
/-- The place as the document tells it. -/
def atP (key : Int) (L : List Pp) : Int := if posP key L < L.length then (posP key L : Int) else -1
theorem rplace_any {w : World} {B b cap : Nat} {v : Value} {L : List Pp} (key : Int) (h : Rb w B b cap v L) (hl : L.length ≤ 1000) {at' : Int} (HA : Hid (at' = atP key L)) :
    Calls Try.prog 41 #[.pointer (some ⟨b, 0, none⟩), .int .u64 key] w fun e w' => e = .returned (.int .i64 at') ∧ w = w' := by
  have hs := own_seesG ppC_len Pp.nil h.row
  have c1 := h.hp.cell (j := 1) rfl
  obtain ⟨a, c, rfl, hc, hm, hn0, hcell⟩ := hs
  have HC := keepG hcell
  unfold maxLen at hm
  clear hcell hn0 h
  go_enter Try.func41, Try.ntmps41
  go_wp2
  go_loopw [5] (fun i wr => ∃ j : Nat, j ≤ L.length ∧ i = .int .i64 j ∧ Hid (∀ i, i < j → (L.getD i Pp.nil).k ≠ key) ∧ w = wr) (fun i _ => L.length - (intOf i).toNat)
  case atStart => exact ⟨0, by omega, rfl, fun i hi => by omega, rfl⟩
  case round =>
    obtain ⟨j, hj, rfl, HJ, rfl⟩ := hrel
    by_cases hlt : j < L.length
    · have hltI : (j : Int) < L.length := by omega
      obtain ⟨g, off, rfl, hg, hat⟩ := HC.out (fun e => by rw [e] at hlt; simp at hlt)
      have d0 := hat j hlt 0 (by omega)
      simp only [List.getElem?_cons_zero, Nat.add_zero] at d0
      clear hat
      obtain ⟨x, HX⟩ : ∃ x, Hid ((L.getD j Pp.nil).k = x) := ⟨_, rfl⟩
      rw [HX.out] at d0
      by_cases hx : x = key
      · have hxb : (x == key) = true := by simpa using hx
        have HR : Hid (at' = (j : Int)) := by
          show _ = _
          have hp := posP_is hlt (HX.out.trans hx) HJ.out
          rw [HA.out, atP, if_pos (by omega), hp]
        clear hx
        go_wp2
        go_ret
        exact ⟨by rw [HR.out]; rfl, rfl⟩
      · have hxb : (x == key) = false := by simpa using hx
        have HJ2 : Hid (∀ i, i < j + 1 → (L.getD i Pp.nil).k ≠ key) := fun i hi => by
          rcases Nat.lt_succ_iff_lt_or_eq.1 hi with g | g
          · exact HJ.out i g
          · rw [g, HX.out]; exact hx
        clear hx
        go_wp2
        go_roundw
        case rel => exact ⟨j + 1, by omega, by go_num, HJ2.out, trivial⟩
        case measure => simp [intOf]; omega
    · have hltI : ¬ (j : Int) < L.length := by omega
      have HR : Hid (at' = -1) := by
        show _ = _
        have hp := posP_none (L := L) (key := key) (fun i hi => HJ.out i (by omega))
        rw [HA.out, atP, if_neg (by omega)]
      go_wp2
      go_ret
      exact ⟨by rw [HR.out]; rfl, rfl⟩
end Go.Proofs.Ytpbfgebecgikjaa
