
/-
 The law's small and awake: the document's examples, by the landed judge's contracts. No condition.
-/
import Derived.Test.YtkcofelpndlplaaGreatMT47
import Derived.Test.YtkcofelpndlplaaGreatMT33
namespace Go.Proofs.YtkcofelpndlplaaGreat
open Go.RowKit
set_option linter.unusedVariables false
set_option linter.unusedSimpArgs false
set_option maxRecDepth 100000

def smallX : List In := [⟨13, 1, 0, 0, 0⟩, ⟨18, 2, 1, 8, 16⟩, ⟨0, 0, 0, 8, 0⟩, ⟨22, 0, 0, 0, 0⟩, ⟨11, 0, 0, 1, 0⟩, ⟨22, 0, 0, 0, 0⟩]
def badX : List In := [⟨13, 1, 0, 0, 0⟩, ⟨11, 0, 0, 1, 0⟩, ⟨22, 0, 0, 0, 0⟩]
def okAt (e : Except (Int × Int) Kn) : Bool := match e with | .ok K => (K.getD 4 kn0).1 && eqT ((K.getD 4 kn0).2.getD 1 Ty.nil) ⟨1, 0, 15, 0⟩ | .error _ => false
theorem small_at : okAt (inqR [] smallX) = true := by decide +kernel
theorem bad_at : judgeR [] badX = (1, 35) := by decide +kernel
theorem small_run : ∃ K, inqR [] smallX = .ok K /\ (K.getD 4 kn0).1 = true /\ (K.getD 4 kn0).2.getD 1 Ty.nil = ⟨1, 0, 15, 0⟩ := by
 have h := small_at
 unfold okAt at h
 split at h
 ·rename_i K hK
  rw [Bool.and_eq_true, eqT_iff] at h
  exact ⟨K, hK, h.1, h.2⟩
 ·cases h
theorem seesI_lit (w : World) (t : TypeId) (xs : List In) (cs : Array Value) (n g : Nat) (hg : g = w.heap.size) (hcs : cs = (flat xs).toArray) (hn : n = xs.length) (hm : xs.length <= 1048576) : SeesI (w.alloc (.cells cs t)) (.slice (some ⟨g, 0, none⟩) n n) xs := by
 subst hn hcs hg
 refine own_seesI (base := w.heap.size) (e := t) ⟨flat_len xs, .inr ⟨w.heap.size, xs.length, (flat xs).toArray, rfl, Nat.le_refl _, heap_alloc_new w _, Nat.le_refl _, by unfold maxLen; omega, by rw [List.size_toArray, flat_len], ?_⟩⟩
 rw [<- flat_len]; simp
theorem sees_nil9 (w : World) : Sees .i64 w (.slice none 0 0) [] := ⟨none, 0, rfl, by simp, by simp [maxLen], fun _ => rfl, by simp, fun h => absurd rfl h⟩
set_option maxHeartbeats 800000 in
theorem small9_any (w : World) : Calls Tryz.prog 12 #[] w fun e w' => ∃ g, e = .returned (modV (.slice none 0 0) (.slice (some ⟨g, 0, none⟩) 6 6)) /\ SeesI w' (.slice (some ⟨g, 0, none⟩) 6 6) smallX /\ Below w.heap.size w w' := by
 go_enter Tryz.func12, Tryz.ntmps12
 go_wp2_with fail
 have hm := (MdC.new w (.slice none 0 0) (.slice (some ⟨w.heap.size + 1, 0, none⟩) 6 6)).kept (grownA_alloc _ (.cells #[.int .i64 13, .int .i64 1, .int .i64 0, .int .i64 0, .int .i64 0, .int .i64 18, .int .i64 2, .int .i64 1, .int .i64 8, .int .i64 16, .int .i64 0, .int .i64 0, .int .i64 0, .int .i64 8, .int .i64 0, .int .i64 22, .int .i64 0, .int .i64 0, .int .i64 0, .int .i64 0, .int .i64 11, .int .i64 0, .int .i64 0, .int .i64 1, .int .i64 0, .int .i64 22, .int .i64 0, .int .i64 0, .int .i64 0, .int .i64 0] 50) none) (by simp)
 refine bodyPost_ret (results_cell_row rfl _ _ w.heap.size _ _ (0, 0) _ rfl hm Tryz.underlying25 rfl (by kernel_rfl)) rfl ?_
 exact ⟨w.heap.size + 1, rfl, seesI_lit _ _ smallX _ _ _ (by simp) rfl rfl (by decide), ((Below.refl _ _).alloc (Nat.le_refl _) _).alloc (by simp) _⟩
theorem ljudge_as {vm vc : Value} {ms : List Int} {xs : List In} {w : World} (hm : Sees .i64 w vm ms) (hx : SeesI w vc xs) {P E : Int} (h : Hid (judgeR ms xs = (P, E))) : Calls Tryz.prog 7 #[.agg #[vm, vc]] w fun e w' => e = .returned (.tuple #[.int .i64 P, .int .i64 E]) /\ Below w.heap.size w w' := by
 refine (ljudge_any vm ms vc xs w hm hx).mono ?_
 rintro e w' ⟨P', E', h1, _, _, rfl, hb⟩
 rw [h.out] at h1
 injection h1 with h2 h3
 subst h2 h3
 exact ⟨rfl, hb⟩
theorem ltypes_as {vm vc : Value} {ms : List Int} {xs : List In} {w : World} (hm : Sees .i64 w vm ms) (hx : SeesI w vc xs) {K : Kn} (h : Hid (inqR ms xs = .ok K)) : Calls Tryz.prog 10 #[.agg #[vm, vc]] w fun e w' => ∃ tb vs, e = .returned (.tuple #[.slice (some ⟨tb, 0, none⟩) xs.length xs.length, .int .i64 0]) /\ Rows9 w' tb K xs.length vs /\ K.length = xs.length /\ MadeK ms.length K /\ Below w.heap.size w w' := by
 refine (ltypes_any vm ms vc xs w hm hx).mono ?_
 rintro e w' (⟨P, E, h1, _⟩ | ⟨K', tb, vs, h1, hT, hmf, hr, hl, hM, rfl, hR, _, hb⟩)
 ·rw [h.out] at h1; cases h1
 ·rw [h.out] at h1; injection h1 with h1; subst h1
  exact ⟨tb, vs, rfl, hR, hl, hM, hb⟩
theorem Rows9.open {w : World} {tb : Nat} {K : Kn} {n : Nat} {vs : List Value} (h : Rows9 w tb K n vs) {j : Nat} (hj : j < n) (hn : n <= K.length) (hr : (K.getD j kn0).1 = true) : ∃ g cap, w.cell? ⟨tb, j, none⟩ = some (.slice (some ⟨g, 0, none⟩) 8 cap) /\ 8 <= cap /\ cap <= 9223372036854775807 /\ g < w.heap.size /\ tb < g /\ (K.getD j kn0).2.length = 8 /\ ∀ r, r < 8 -> AtT w g (r * 4) ((K.getD j kn0).2.getD r Ty.nil) := by
 obtain ⟨⟨base, ho⟩, h8, h1, h2⟩ := (h.row j hj).2 hr
 obtain ⟨g, cap, hv, hb, hgz, hc⟩ := own_block ho (by omega)
 have hcell := h.cells.cell (getD_some (show j < vs.length by rw [h.len]; omega))
 have hs := qBx ho
 rw [hv] at hcell h1 hs
 rw [h8] at hcell hs hc
 obtain ⟨a', c', hv', h3, h4, h5, h6⟩ := hs
 injection hv' with e1 e2 e3
 subst e1 e3
 obtain ⟨b', off', he, hlt, hat⟩ := h6 (fun e => by rw [e] at h8; simp at h8)
 injection he with he
 injection he with e4 e5
 subst e4 e5
 refine ⟨g, cap, hcell, hc, by unfold maxLen at h4; omega, hgz, h1, h8, fun r hr => ?_⟩
 have := hat r (by omega)
 rw [Nat.zero_add] at this
 exact this
set_option maxHeartbeats 1600000 in
theorem awake9_any (w : World) : Calls Tryz.prog 5 #[] w fun e w' => e = .returned (.bool true) /\ Below w.heap.size w w' := by
 obtain ⟨K, hK, hr, ht⟩ := small_run
 have HK : Hid (inqR [] smallX = .ok K) := hK
 have HJ : Hid (judgeR [] smallX = (0, 0)) := by show _ = _; unfold judgeR; rw [hK]
 have HB : Hid (judgeR [] badX = (1, 35)) := bad_at
 have HR := keepJ hr
 have HT := keepJ ht
 have K1 : Hid True := trivial
 have K2 : Hid True := trivial
 have K3 : Hid True := trivial
 clear hK hr ht
 go_enter Tryz.func5, Tryz.ntmps5
 go_wp2_with (first
  | (go_at_call 12; (have hq := K1; clear hq); go_must (refine (small9_any _).mono ?_); rintro e w1 ⟨g1, rfl, hs1, hb1⟩; go_must (have HS1 := keepJ hs1; clear hs1 K1))
  | (go_at_call 7; (have hq := K2; clear hq); go_must (refine (ljudge_as (sees_nil9 _) HS1.out HJ).mono ?_); rintro e w2 ⟨rfl, hb2⟩; go_must (have hB2 := hb1.trans (hb2.mono hb1.size); clear hb2 K2))
  | (go_at_call 12; go_must (refine (small9_any _).mono ?_); rintro e w3 ⟨g3, rfl, hs3, hb3⟩; go_must (have HS3 := keepJ hs3; have hB3 := hB2.trans (hb3.mono hB2.size); clear hs3 hb3))
  | (go_at_call 10; go_must (refine (ltypes_as (sees_nil9 _) HS3.out HK).mono ?_); rintro e w4 ⟨tb, vs, rfl, hR, hl, hM, hb4⟩; go_must (have hB4 := hB3.trans (hb4.mono hB3.size); have HR4 := keepJ hR; have HL4 := keepJ hl; clear hb4 hR hl hM))
  | (go_at_call 7; go_must (refine (ljudge_as (xs := badX) (sees_nil9 _) (seesI_lit _ _ badX _ _ _ rfl rfl rfl (by decide)) HB).mono ?_); rintro e w5 ⟨rfl, hb5'⟩; go_must (have hb5 := qAl hb5'; have hB5 := hB4.trans (hb5.mono hB4.size); obtain ⟨g, cap, c4, hcap, hcm, hg, _, h8, hat⟩ := (HR4.out.grown hb5).open (j := 4) (by decide) (by rw [HL4.out]; exact Nat.le_refl _) HR.out; have hA := hat 1 (by decide); rw [HT.out] at hA; obtain ⟨a0, a1, a2, a3⟩ := hA; simp only at a0 a1 a2 a3; clear hat hb5 hb5' HS1 HS3)))
 go_ret
 exact ⟨rfl, hB5⟩
end Go.Proofs.YtkcofelpndlplaaGreat
