
/-
  The document's ring of layer 16: Shut and Counts. Condition: it lies where the pointer says, its row is the call's own.
-/
import Derived.Test.YthcdfknadcdfkaaR16Ref
import Derived.Deep.MidRow
namespace Go.Proofs.Ythcdfknadcdfkaa
open Go.RowKit
set_option linter.unusedVariables false
set_option linter.unusedSimpArgs false
set_option maxRecDepth 100000
section
variable {w w' : World} {B b : Nat} {v : Value} {r : Rg}
theorem Rk.drewN (h : Rk w B b v r) (n : Nat) : Rk (w.drewN n) B b v r := ⟨h.hp, h.row⟩
theorem Rk.apart (h : Rk w B b v r) : v.ownBlock ≠ some b := own_type10 h.row h.hp (by decide)
/-- A store into the ring's own block. -/
theorem Rk.set (h : Rk w B b v r) (i : Nat) (u : Value) {v' : Value} {r' : Rg} (hc : [Value.int .i64 r.room, .int .i64 r.taken, .int .i64 r.refused, .bool r.closed, v].set i u = [Value.int .i64 r'.room, .int .i64 r'.taken, .int .i64 r'.refused, .bool r'.closed, v']) (hv : v' = v) (ha : r'.all = r.all) : Rk (w.setCell ⟨b, i, none⟩ u) B b v' r' := by
  subst hv
  refine ⟨?_, ?_⟩
  · have := h.hp.set i u
    rw [hc] at this
    exact this
  · rw [ha]
    exact own_chg h.row (Chg.set w b i u) (fun k hk e => h.apart (by rw [hk, e]))
theorem kShut_any (h : Rk w B b v r) (ht : r.taken ≤ r.all.length) : Calls Try.prog 16 #[.pointer (some ⟨b, 0, none⟩)] w fun e w' => ∃ u, e = .returned u ∧ SeesG qeC 3 Qe.nil w u r.waits ∧ Rk w' B b v r.shut.2 ∧ Chg w w' (fun k => k = b) := by
  have HR := keepG h
  have hlt := h.hp.lt
  clear h
  go_enter Try.func16, Try.ntmps16
  go_wp2_with (go_at_call 18; go_must (refine (kWaits_any HR.out ht).mono ?_); rintro e w1 ⟨u, k, rfl, hs, rfl⟩; go_must (have HS := keepG hs; have HR1 := keepG (HR.out.drewN k); have c3 := HR1.out.hp.cell (j := 3) rfl; have f3 := HR1.out.hp.frozen 3; clear hs))
  go_ret
  exact ⟨u, rfl, HS.out, HR1.out.set 3 (.bool true) rfl rfl rfl, (Chg.refl w _).drewN k |>.trans (Chg.set _ b 3 _) (fun _ _ e => e)⟩
end
end Go.Proofs.Ythcdfknadcdfkaa
