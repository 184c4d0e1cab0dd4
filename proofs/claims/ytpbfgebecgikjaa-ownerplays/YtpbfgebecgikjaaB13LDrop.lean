
/-
  The landed book's drop. Condition: the book lies where the pointer says, its row is the call's own.
-/
import Derived.Test.YtpbfgebecgikjaaB13LSet
namespace Go.Proofs.Ytpbfgebecgikjaa
open Go.RowKit
set_option linter.unusedVariables false
set_option linter.unusedSimpArgs false
set_option maxRecDepth 100000

section
variable {w : World} {B b cap : Nat} {v : Value} {L : List Pp}
theorem ldrop_no (i : Int) : Calls Try.prog 65 #[.pointer (some ⟨b, 0, none⟩), .int .i64 i, .bool false] w fun e w' => e = .returned (.tuple #[]) ∧ w = w' := by
  go_enter Try.func65, Try.ntmps65
  go_wp2
  exact bodyPost_end (results_none rfl _ _ _) rfl ⟨rfl, rfl⟩
set_option maxHeartbeats 4000000 in
theorem ldrop_yes {i : Nat} (h : Lb w B b cap v L) (hl : L.length ≤ 1000) (hi : i < L.length) :
    Calls Try.prog 65 #[.pointer (some ⟨b, 0, none⟩), .int .i64 i, .bool true] w fun e w' => e = .returned (.tuple #[]) ∧ ∃ v', Lb w' B b cap v' (L.eraseIdx i) ∧ Chg w w' (bkS b v) ∧ v'.ownBlock = v.ownBlock := by
  have hap := h.apart
  obtain ⟨n, hn⟩ : ∃ n, L.length = n + 1 := ⟨L.length - 1, by omega⟩
  obtain ⟨g, c, cur, rfl, _⟩ := own_row h.row (by omega)
  have HR := keepG h.row
  have HBk := keepG h.hp
  have c1 := h.hp.cell (j := 1) rfl
  have hnI : (i : Int) + 1 ≤ n + 1 := by omega
  have hiw : IntKind.i64.wrap ((i : Int) + 1) = (i : Int) + 1 := by rw [IntKind.wrap_i64]; omega
  rw [hn] at c1
  clear h
  go_enter Try.func65, Try.ntmps65
  go_wp2_with (go_at_call 67; go_must (refine (ldel_at HR.out hl hi hn).mono ?_); rintro e w1 ⟨v', rfl, hown, hch, hnew⟩; go_must (obtain ⟨a', c', rfl⟩ := own_shape hown; have HOW := keepG hown; have HCH := keepG hch; have Hb1 := keepG (HBk.out.chg hch (fun e => hap (by rw [e]; rfl))); have cc := Hb1.out.cell (j := 1) rfl; have ff := Hb1.out.frozen 1; clear hown hch c1))
  refine bodyPost_end (results_none rfl _ _ _) rfl ⟨rfl, _, ⟨Hb1.out.set 1 _, own_chg HOW.out (Chg.set _ _ _ _) (fun k hk e => by rw [hnew] at hk; have := Option.some.inj hk; exact hap (by rw [← e, ← this]; rfl))⟩, ?_, hnew⟩
  exact (HCH.out.mono (fun k e => .inr (by rw [e]; rfl))).trans (Chg.set _ _ _ _) (fun k _ e => .inl e)
end
end Go.Proofs.Ytpbfgebecgikjaa
