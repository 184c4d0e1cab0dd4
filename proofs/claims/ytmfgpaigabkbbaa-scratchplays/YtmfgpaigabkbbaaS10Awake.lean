
/-
  The landed scratch's answers as letters; the law's awake. No condition.
-/
import Derived.Test.YtmfgpaigabkbbaaS10Totals
import Derived.Test.YtmfgpaigabkbbaaS10Nums
namespace Go.Proofs.Ytmfgpaigabkbbaa
open Go.RowKit
set_option linter.unusedVariables false
set_option linter.unusedSimpArgs false
set_option maxRecDepth 100000

theorem load_as {a x r : Int} {b : Nat} {ws cs : List Int} (hx : Hid ((if inB a then ws.getD a.toNat 0 else 0) = x)) (hr : Hid ((if inB a then 0 else 35 : Int) = r)) (w : World) (h : Sc w b ws cs) : Calls Try.prog 15 #[.pointer (some ⟨b, 0, none⟩), .int .i64 a] w fun e w' => e = .returned (.tuple #[.int .u64 x, .int .i64 r]) ∧ w' = w := by
  rw [← hx.out, ← hr.out]; exact load_any a w h
theorem count_as {a x r : Int} {b : Nat} {ws cs : List Int} (hx : Hid ((if inB a then cs.getD a.toNat 0 else 0) = x)) (hr : Hid ((if inB a then 0 else 35 : Int) = r)) (w : World) (h : Sc w b ws cs) : Calls Try.prog 17 #[.pointer (some ⟨b, 16, none⟩), .int .i64 a] w fun e w' => e = .returned (.tuple #[.int .u64 x, .int .i64 r]) ∧ w' = w := by
  rw [← hx.out, ← hr.out]; exact count_any a w h
theorem store_as {a n r : Int} {b : Nat} {ws cs us : List Int} (hu : Hid ((if inB a then ws.set a.toNat n else ws) = us)) (hr : Hid ((if inB a then 0 else 35 : Int) = r)) (w : World) (h : Sc w b ws cs) : Calls Try.prog 14 #[.pointer (some ⟨b, 0, none⟩), .int .i64 a, .int .u64 n] w fun e w' => e = .returned (.int .i64 r) ∧ Sc w' b us cs ∧ w.grownBy w' (some b) ∧ w'.heap.size = w.heap.size := by
  rw [← hu.out, ← hr.out]; exact store_any a n w h
theorem mark_as {a x r : Int} {b : Nat} {ws cs us : List Int} (hx : Hid ((if inB a then addW (cs.getD a.toNat 0) 1 else 0) = x)) (hu : Hid ((if inB a then oneUp cs a.toNat else cs) = us)) (hr : Hid ((if inB a then 0 else 35 : Int) = r)) (w : World) (h : Sc w b ws cs) : Calls Try.prog 18 #[.pointer (some ⟨b, 16, none⟩), .int .i64 a] w fun e w' => e = .returned (.tuple #[.int .u64 x, .int .i64 r]) ∧ Sc w' b ws us ∧ w.grownBy w' (some b) ∧ w'.heap.size = w.heap.size := by
  rw [← hx.out, ← hu.out, ← hr.out]; exact mark_any a w h
theorem new_as {Z : List Int} (hz : Hid (nought = Z)) (w : World) : Calls Try.prog 8 #[] w fun e w' => e = .returned (.pointer (some ⟨w.heap.size, 0, none⟩)) ∧ Sc w' w.heap.size Z Z ∧ w'.heap.size = w.heap.size + 1 ∧ Below w.heap.size w w' := by
  rw [← hz.out]; exact new_any w
theorem PtrIs.nil (w : World) : PtrIs w (.pointer none) none := .inl ⟨rfl, rfl⟩
theorem PtrIs.sc {w : World} {b : Nat} {ws cs : List Int} (h : Sc w b ws cs) : PtrIs w (.pointer (some ⟨b, 0, none⟩)) (some cs) := .inr ⟨b, ws, cs, rfl, rfl, h⟩
theorem seesP_lit (w : World) (T : TypeId) (vs : List Value) (ss : List (Option (List Int))) (n : Nat) (hn : n = ss.length) (hv : vs.length = ss.length) (hm : ss.length ≤ 4194304) (h : ∀ i, i < ss.length → PtrIs (w.alloc (.cells vs.toArray T)) (vs.getD i (.pointer none)) (ss.getD i none)) :
    SeesP (w.alloc (.cells vs.toArray T)) (.slice (some ⟨w.heap.size, 0, none⟩) n n) ss := by
  subst hn
  refine ⟨_, _, rfl, Nat.le_refl _, by unfold maxLen; omega, fun _ => ⟨w.heap.size, 0, rfl, by simp, fun i hi => ⟨vs.getD i (.pointer none), ?_, h i hi⟩⟩⟩
  rw [Nat.zero_add, World.cell?_alloc_at _ _ _ _ rfl]
  have : i < vs.length := by omega
  simp [List.getD, this]
theorem two_lit {w : World} {T : TypeId} {u v : Value} {x y : Option (List Int)} (h1 : PtrIs (w.alloc (.cells #[u, v] T)) u x) (h2 : PtrIs (w.alloc (.cells #[u, v] T)) v y) : SeesP (w.alloc (.cells #[u, v] T)) (.slice (some ⟨w.heap.size, 0, none⟩) 2 2) [x, y] :=
  seesP_lit w T [u, v] [x, y] 2 rfl rfl (by simp) fun i hi => by
    have : i = 0 ∨ i = 1 := by simp at hi; omega
    rcases this with rfl | rfl
    · exact h1
    · exact h2
theorem one_lit {w : World} {T : TypeId} {u : Value} {x : Option (List Int)} (h1 : PtrIs (w.alloc (.cells #[u] T)) u x) : SeesP (w.alloc (.cells #[u] T)) (.slice (some ⟨w.heap.size, 0, none⟩) 1 1) [x] :=
  seesP_lit w T [u] [x] 1 rfl rfl (by simp) fun i hi => by
    have : i = 0 := by simp at hi; omega
    subst this
    exact h1
theorem own_grown {w w' w0 : World} {b : Nat} (hb : Below w0.heap.size w0 w) (hg : w.grownBy w' (some b)) (h : w0.heap.size ≤ b) : Below w0.heap.size w0 w' := hb.trans (grown_to_below hg h hb.size)
theorem below_alloc (w : World) (o : Obj) : Below w.heap.size w (w.alloc o) := (Below.refl _ _).alloc (Nat.le_refl _) _
set_option maxHeartbeats 800000 in
theorem awake_any (w : World) : Calls Try.prog 7 #[] w fun e w' => e = .returned (.bool true) ∧ Below w.heap.size w w' := by
  obtain ⟨Z, HZ, U, V, K1, K3, K4, K5⟩ : ∃ Z, Hid (nought = Z) ∧ ∃ U V, Hid ((if inB 3 then Z.set (Int.toNat 3) 7 else Z) = U) ∧ Hid ((if inB 3 then U.getD (Int.toNat 3) 0 else 0) = 7) ∧ Hid ((if inB 0 then addW (Z.getD (Int.toNat 0) 0) 1 else 0) = 1) ∧ Hid ((if inB 0 then oneUp Z (Int.toNat 0) else Z) = V) := ⟨_, rfl, _, _, rfl, rfl, rfl, rfl⟩
  have K2 : Hid ((if inB 3 then 0 else 35 : Int) = 0) := rfl
  have K6 : Hid ((if inB 0 then 0 else 35 : Int) = 0) := rfl
  go_enter Try.func7, Try.ntmps7
  go_wp2_with (first
    | (go_at_call 8; go_must (refine (new_as HZ _).mono ?_); rintro e w1 ⟨rfl, hs1, hz1, hb1⟩; have HS1 : Hid (Sc w1 w.heap.size Z Z) := hs1; have HB1 : Hid (Below w.heap.size w w1) := hb1; clear hs1 hb1 hz1)
    | (go_at_call 14; go_must (refine (store_as K1 K2 _ HS1.out).mono ?_); rintro e w2 ⟨rfl, hs2, hg2, hz2⟩; have HS2 : Hid (Sc w2 w.heap.size U Z) := hs2; have HB2 : Hid (Below w.heap.size w w2) := own_grown HB1.out hg2 (Nat.le_refl _); clear hs2 hg2 HB1 HS1 hz2)
    | (go_at_call 15; go_must (refine (load_as K3 K2 _ HS2.out).mono ?_); rintro e w' ⟨rfl, rfl⟩)
    | (go_at_call 18; go_must (refine (mark_as K4 K5 K6 _ HS2.out).mono ?_); rintro e w3 ⟨rfl, hs3, hg3, hz3⟩; have HS3 : Hid (Sc w3 w.heap.size U V) := hs3; have HB3 : Hid (Below w.heap.size w w3) := own_grown HB2.out hg3 (Nat.le_refl _); clear hs3 hg3 HB2 HS2 hz3)
    | (go_at_call 11; go_must (refine (totals_any _ (two_lit (PtrIs.sc (HS3.out.alloc _)) (PtrIs.nil _))).mono ?_); rintro e w4 ⟨u, rfl, ho, hb4⟩; obtain ⟨g, cap, rfl, _⟩ := own_open ho (by decide); have HB4 : Hid (Below w.heap.size w w4) := HB3.out.trans (((below_alloc _ _).trans (hb4.mono (by simp))).mono HB3.out.size); clear hb4 ho HS3 HB3))
  go_ret
  exact ⟨rfl, HB4.out⟩
end Go.Proofs.Ytmfgpaigabkbbaa
