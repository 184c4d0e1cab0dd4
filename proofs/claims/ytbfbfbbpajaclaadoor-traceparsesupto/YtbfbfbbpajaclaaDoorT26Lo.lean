
/-
  Layer 26, landed, plain: a field's digits, the letters of an entry, a line read loosely. No Go text in sight.
-/
import Derived.Test.YtbfbfbbpajaclaaDoorX26Bk4
import Derived.Test.YtbfbfbbpajaclaaDoorT26Dg
import Derived.Test.YtbfbfbbpajaclaaDoorT26Lt
namespace Go.Proofs.YtbfbfbbpajaclaaDoor
open Go.RowKit
set_option linter.unusedVariables false
set_option linter.unusedSimpArgs false
set_option maxRecDepth 100000
theorem wd1_dg (e : En) (c : UInt8) : wd1 e c = c :: dgE e c := rfl
theorem wdE_dg (e : En) (c : UInt8) : wdE e c = 32 :: c :: dgE e c := rfl
theorem dgE_len (e : En) (c : UInt8) : (dgE e c).length ≤ 21 := by
  have h1 := digF_len 20 (unE e c.toNat).1.toNat
  have h2 := numL_len (sgE e c.toNat)
  unfold dgE
  split <;> omega
theorem ltrE_mem {e : En} {c : UInt8} (h : c ∈ ltrE e) : c ∈ allL ∧ c ≠ 32 := by
  unfold ltrE at h
  split at h
  · rename_i hm; exact fld_mem hm h
  · cases h
/-- Is an eviction's letters' pair at the end? -/
theorem suf_in : ∀ (k : Fin 17) (o : Bool), Lib.hasSuffix (fldL ((k.val : Int) + 1) o) [79, 86] = (o && inL26 (fldL ((k.val : Int) + 1) o) 121) := by decide +kernel
theorem suf_ltr (e : En) : Lib.hasSuffix (ltrE e) [79, 86] = (e.ou && inL26 (ltrE e) 121) := by
  unfold ltrE
  by_cases h : 1 ≤ e.wh ∧ e.wh ≤ 17
  · rw [if_pos h]
    have := suf_in ⟨(e.wh - 1).toNat, by omega⟩ e.ou
    rw [show (((e.wh - 1).toNat : Nat) : Int) + 1 = e.wh by omega] at this
    exact this
  · rw [if_neg h]
    cases e.ou <;> rfl
theorem Got.zero {k n : Int} (h : Got [48] k n) : k = 0 ∧ n = 0 := ⟨h.2.2.1 0 (by omega) (by omega) (by decide +kernel), h.2.2.2 0 (by omega) (by decide +kernel)⟩
theorem un_bd {e : En} (hw : e.wf) (c : Nat) : (unE e c).1.toNat ≤ 18446744073709551615 ∧ ((unE e c).1.toNat : Int) = (unE e c).1 := by have := hw.un c; omega
/-- A field that was written is set. -/
theorem Got.back {e e0 : En} (hw : e.wf) {c : UInt8} (hc : c ∈ allL) {k n : Int} (h : Got (dgE e c) k n) : Eq26 (putE e0 c.toNat k n) e c := by
  cases hu : (unE e c.toNat).2 with
  | true =>
    obtain ⟨b1, b2⟩ := un_bd hw c.toNat
    have hn : n = (unE e c.toNat).1 := by rw [← b2]; exact h.2.2.2 _ b1 (by unfold dgE; rw [if_pos hu])
    refine ⟨?_, fun h => by rw [hu] at h; cases h⟩
    rw [put_un e0 _ _ hc (by rw [un_snd e0 e]; exact hu), hn, ← hu]
  | false =>
    have hs := hw.si c.toNat
    have hk : k = sgE e c.toNat := h.2.2.1 _ hs.1 hs.2 (by unfold dgE; rw [if_neg (by rw [hu]; decide)])
    subst hk
    have h98 : c = 98 → sgE e c.toNat = 0 ∨ sgE e c.toNat = 1 := fun h => by
      subst h
      show (if e.fo = true then (1 : Int) else 0) = 0 ∨ (if e.fo = true then (1 : Int) else 0) = 1
      cases e.fo <;> simp
    obtain ⟨p1, p2⟩ := put_sg e0 (sgE e c.toNat) n hc (by rw [un_snd e0 e]; exact hu) h98
    exact ⟨by rw [p1, un_no hu], fun _ => p2⟩
theorem putE_wf' {e : En} (hw : e.wf) {c : Nat} {l : List UInt8} {k n : Int} (h : Got l k n) : (putE e c k n).wf := putE_wf hw c h.1 h.2.1
end Go.Proofs.YtbfbfbbpajaclaaDoor
