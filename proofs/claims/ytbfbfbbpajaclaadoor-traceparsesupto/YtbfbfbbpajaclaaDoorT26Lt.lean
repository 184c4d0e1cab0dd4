
/-
  What the landed letters does: all letters of an entry's line. No condition.
-/
import Derived.Test.YtbfbfbbpajaclaaDoorT26Std
import Derived.Test.YtbfbfbbpajaclaaDoorT26N
namespace Go.Proofs.YtbfbfbbpajaclaaDoor
open Go.RowKit
set_option linter.unusedVariables false
set_option linter.unusedSimpArgs false
set_option maxRecDepth 100000
/-- The letters of an entry's line. -/
def ltrE (e : En) : List UInt8 := if 1 ≤ e.wh ∧ e.wh ≤ 17 then fldL e.wh e.ou else []
theorem ltr_in : ∀ (k : Fin 17) (o : Bool), fldL ((k.val : Int) + 1) o = fldL ((k.val : Int) + 1) false ++ (if o && Lib.hasSuffix (fldL ((k.val : Int) + 1) false) [121, 98, 114] then [79, 86] else []) := by decide +kernel
theorem ltr_suf (m : Int) (o : Bool) : (if 1 ≤ m ∧ m ≤ 17 then fldL m o else []) = ltE m ++ (if o && Lib.hasSuffix (ltE m) [121, 98, 114] then [79, 86] else []) := by
  unfold ltE
  by_cases h : 1 ≤ m ∧ m ≤ 17
  · rw [if_pos h, if_pos h]
    have := ltr_in ⟨(m - 1).toNat, by omega⟩ o
    rw [show (((m - 1).toNat : Nat) : Int) + 1 = m by omega] at this
    exact this
  · rw [if_neg h, if_neg h]
    cases o <;> rfl
theorem ltE_len (m : Int) : (ltE m).length ≤ 14 := by unfold ltE; split; exact fldL_len _ _; simp
theorem ltrE_len (e : En) : (ltrE e).length ≤ 14 := by unfold ltrE; split; exact fldL_len _ _; simp
set_option maxHeartbeats 1600000 in
theorem lltr26b (e : En) (o : Bool) (w : World) : Calls Tryd.prog 39 #[enV { e with ou := o }] w fun r w' => r = .returned (.string (str (ltrE { e with ou := o }))) ∧ Below w.heap.size w w' := by
  obtain ⟨X, HX, HP, HB⟩ := box_en w { e with ou := o }
  have HX := HX.out
  dsimp only [enC] at HX
  have HX := keepG HX
  have q0 := HP.out.cell (j := 0) rfl
  have q17 := HP.out.cell (j := 17) rfl
  obtain ⟨f, HF⟩ : ∃ f, Hid (ltE e.wh = f) := ⟨_, rfl⟩
  have hfl : f.length ≤ 14 := by rw [← HF.out]; exact ltE_len _
  obtain ⟨b, HS⟩ : ∃ b, Hid (Lib.hasSuffix f [121, 98, 114] = b) := ⟨_, rfl⟩
  have HE : Hid (ltrE { e with ou := o } = f ++ (if o && b then [79, 86] else [])) := by
    show ltrE { e with ou := o } = _
    have := ltr_suf e.wh o
    rw [HF.out, HS.out] at this
    exact this
  unfold enV
  cases o
  · go_enter Tryd.func39, Tryd.ntmps39
    go_wp2_with (first
      | (rw [HX.out])
      | (go_at_call 54; go_must (refine (lof26 e.wh _).mono ?_); rintro e1 w1 ⟨rfl, rfl⟩; go_must (rw [HF.out])))
    go_ret
    exact ⟨rets (by rw [HE.out]; simp), HB.out⟩
  · cases b
    · go_enter Tryd.func39, Tryd.ntmps39
      go_wp2_with (first
        | (rw [HX.out])
        | (go_at_call 54; go_must (refine (lof26 e.wh _).mono ?_); rintro e1 w1 ⟨rfl, rfl⟩; go_must (rw [HF.out]))
        | (go_at_call 45; go_must (refine (suf_any f [121, 98, 114] _ (by omega)).mono ?_); rintro e1 w1 ⟨rfl, rfl⟩; go_must (rw [HS.out])))
      go_ret
      exact ⟨rets (by rw [HE.out]; simp), HB.out⟩
    · go_enter Tryd.func39, Tryd.ntmps39
      go_wp2_with (first
        | (rw [HX.out])
        | (go_at_call 54; go_must (refine (lof26 e.wh _).mono ?_); rintro e1 w1 ⟨rfl, rfl⟩; go_must (rw [HF.out]))
        | (go_at_call 45; go_must (refine (suf_any f [121, 98, 114] _ (by omega)).mono ?_); rintro e1 w1 ⟨rfl, rfl⟩; go_must (rw [HS.out])))
      go_ret
      exact ⟨rets (by rw [HE.out]; exact str_app f [79, 86]), HB.out⟩
theorem lltr26 (e : En) (w : World) : Calls Tryd.prog 39 #[enV e] w fun r w' => r = .returned (.string (str (ltrE e))) ∧ Below w.heap.size w w' := lltr26b e e.ou w
end Go.Proofs.YtbfbfbbpajaclaaDoor
