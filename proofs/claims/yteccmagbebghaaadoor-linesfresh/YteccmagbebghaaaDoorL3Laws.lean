/-
  The law's own look at the document's examples, and LinesParses, walked: true. Conditions: the landed Print and Parse are the plain ones wherever K holds (two premises, to be met by their own contracts); the document's Parse likewise; the text is of a million bytes at most.
-/
import Derived.Test.YteccmagbebghaaaDoorL3Alike
import Derived.Test.YteccmagbebghaaaDoorR3Print
import Derived.Test.YteccmagbebghaaaDoorR3Text
import Derived.Deep.RegionHeld3
namespace Go.Proofs.YteccmagbebghaaaDoor
open Go.RowKit
set_option linter.unusedVariables false
set_option maxRecDepth 100000
set_option linter.unusedSimpArgs false

/-- The landed Print is the plain one. -/
def PrintsLike (K : World → Prop) : Prop := ∀ (v : Value) (xs : List In) (w : World), K w → SeesI w v xs → (∀ i ∈ xs, i.wf) → xs.length ≤ 3518437208780 →
  Calls Tryd.prog 10 #[v] w fun e w' => e = .returned (.tuple #[.string (str (printL xs).1), .int .i64 (printL xs).2]) ∧ Below w.heap.size w w'
/-- The landed Parse is the plain one. -/
def ParsesLike (K : World → Prop) : Prop := ∀ (l : List UInt8) (w : World), K w → l.length ≤ 1073741824 →
  Calls Tryd.prog 13 #[.string (str l)] w fun e w' => ∃ v, e = .returned (.tuple #[v, .int .i64 (parseL l).2.1, .int .i64 (parseL l).2.2]) ∧ w'.ownsRow w.heap.size 32 5 v (parseL l).1.length (flat (parseL l).1) ∧ Below w.heap.size w w'
/-- The document's Parse is the plain one. -/
def RefParses : Prop := ∀ (l : List UInt8) (w : World), l.length ≤ 4194304 →
  Calls Tryd.prog 14 #[.string (str l)] w fun e w' => ∃ v, e = .returned (.tuple #[v, .int .i64 (parseL l).2.1, .int .i64 (parseL l).2.2]) ∧ w'.ownsRow w.heap.size 32 5 v (parseL l).1.length (flat (parseL l).1) ∧ Below w.heap.size w w'
/-- K outlives whatever leaves old memory alone. -/
def Keeps (K : World → Prop) : Prop := ∀ w w' : World, K w → Below w.heap.size w w' → K w'

theorem sees_one (w : World) (t : TypeId) (op d a b imm : Int) : SeesI (w.alloc (.cells #[.int .i64 op, .int .i64 d, .int .i64 a, .int .i64 b, .int .i64 imm] t)) (.slice (some ⟨w.heap.size, 0, none⟩) 1 1) [⟨op, d, a, b, imm⟩] := by
  refine ⟨_, 1, rfl, by simp, by simp [maxLen], fun h => by simp at h, fun _ => ⟨w.heap.size, 0, rfl, by simp, fun k hk => ?_⟩⟩
  obtain rfl : k = 0 := by simpa using hk
  refine ⟨?_, ?_, ?_, ?_, ?_⟩ <;> simp
theorem print_add : printL [⟨1, 1, 2, 3, 0⟩] = ([97, 100, 100, 32, 114, 49, 32, 114, 50, 32, 114, 51, 10], 0) := by kernel_rfl
theorem parse_jlt : parseL [106, 108, 116, 32, 114, 52, 32, 45, 49, 32, 50, 10] = ([⟨18, 2, 4, 8, -1⟩], 0, 0) := by kernel_rfl
theorem wf_add : ∀ i ∈ [(⟨1, 1, 2, 3, 0⟩ : In)], i.wf := by intro i hi; simp at hi; subst hi; exact ⟨rfl, rfl, rfl, rfl, rfl⟩
theorem own_one {w : World} {base : Nat} {e : TypeId} {v : Value} {i : In} (h : w.ownsRow base e 5 v 1 (flat [i])) : ∃ b off cap, v = .slice (some ⟨b, off, none⟩) 1 cap ∧ 1 ≤ cap ∧ cap ≤ 9223372036854775807 ∧ At w b off i := by
  obtain ⟨a, cap, rfl, h1, h2, h3, h4⟩ := own_seesI (xs := [i]) h
  obtain ⟨b, off, rfl, _, hc⟩ := h4 (by simp)
  unfold maxLen at h2
  have := hc 0 (by simp)
  exact ⟨b, off, cap, rfl, by simpa using h1, by omega, by simpa using this⟩

set_option maxHeartbeats 1600000 in
theorem lawake_any {K : World → Prop} (hK : Keeps K) (hP : PrintsLike K) (hQ : ParsesLike K) (w : World) (h : K w) : Calls Tryd.prog 9 #[] w fun e w' => e = .returned (.bool true) ∧ Below w.heap.size w w' := by
  have HK : Hid (∀ w', Below w.heap.size w w' → K w') := fun w' hb => hK w w' h hb
  have HP : Hid (PrintsLike K) := hP
  have HQ : Hid (ParsesLike K) := hQ
  clear hP hQ h hK
  go_enter Tryd.func9, Tryd.ntmps9
  go_wp2_with (first
    | (go_at_call 10; go_must (refine (HP.out _ _ _ (HK.out _ ((Below.refl w.heap.size w).alloc (Nat.le_refl _) _)) (sees_one w _ 1 1 2 3 0) wf_add (by simp)).mono ?_); rintro e w1 ⟨rfl, hb1⟩; rw [print_add]; go_must (have hB1 : Below w.heap.size w w1 := ((Below.refl w.heap.size w).alloc (Nat.le_refl _) _).trans (hb1.mono (by simp)); clear hb1))
    | (go_at_call 13; go_must (refine (HQ.out [106, 108, 116, 32, 114, 52, 32, 45, 49, 32, 50, 10] _ (HK.out _ hB1) (by simp)).mono ?_); rintro e w2 ⟨v, rfl, hown, hb2⟩; rw [parse_jlt] at hown ⊢; go_must (obtain ⟨bk, off, cap, rfl, hc1, hc2, h0, h1, h2, h3, h4⟩ := own_one hown; simp only at h0 h1 h2 h3 h4; clear hown; have hB2 : Below w.heap.size w w2 := hB1.trans (hb2.mono hB1.size); clear hb2)))
  go_ret
  exact ⟨rfl, hB2⟩

set_option maxHeartbeats 1600000 in
theorem parses_law {K : World → Prop} (hK : Keeps K) (hP : PrintsLike K) (hQ : ParsesLike K) (hR : RefParses) (l : List UInt8) (w : World) (h : K w) (hl : l.length ≤ 4194304) : Calls Tryd.prog 4 #[.string (str l)] w fun e w' => e = .returned (.bool true) ∧ Below w.heap.size w w' := by
  have HK : Hid (∀ w', Below w.heap.size w w' → K w') := fun w' hb => hK w w' h hb
  have HA : Hid (Calls Tryd.prog 9 #[] w fun e w' => e = .returned (.bool true) ∧ Below w.heap.size w w') := lawake_any hK hP hQ w h
  have HQ : Hid (ParsesLike K) := hQ
  have HR : Hid RefParses := hR
  have HL : Hid (l.length ≤ 4194304) := hl
  clear hP hQ h hK hR hl
  go_enter Tryd.func4, Tryd.ntmps4
  go_wp2_with (first
    | (go_at_call 9; go_must (refine HA.out.mono ?_); rintro e w1 ⟨rfl, hB1⟩)
    | (go_at_call 13; go_must (refine (HQ.out l _ (HK.out _ hB1) (Nat.le_trans HL.out (by decide))).mono ?_); rintro e w2 ⟨v, rfl, hown, hb2⟩; go_must (have hB2 : Below w.heap.size w w2 := hB1.trans (hb2.mono hB1.size); clear hb2; have HS : Hid (SeesI w2 v (parseL l).1) := own_seesI hown; clear hown))
    | (go_at_call 14; go_must (refine (HR.out l _ HL.out).mono ?_); rintro e w3 ⟨v', rfl, hown', hb3⟩; go_must (have hB3 : Below w.heap.size w w3 := hB2.trans (hb3.mono hB2.size); have HS2 : Hid (SeesI w3 v (parseL l).1) := HS.out.below hb3; have HS3 : Hid (SeesI w3 v' (parseL l).1) := own_seesI hown'; clear hb3 hown'))
    | (go_at_call 12; go_must (refine (alike_any v v' (parseL l).1 (parseL l).1 _ HS2.out HS3.out).mono ?_); rintro e w4 ⟨rfl, n, rfl⟩; rw [sameI_true rfl]))
  go_ret
  exact ⟨retb (by simp), below_drewN hB3 n⟩
end Go.Proofs.YteccmagbebghaaaDoor
