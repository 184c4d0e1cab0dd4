
/-
  The landed ring of layer 16: Counts, Take. Condition: it lies where the pointer says, its row is the call's own.
-/
import Derived.Test.YthcdfknadcdfkaaTk
import Derived.Test.YthcdfknadcdfkaaR16LA
namespace Go.Proofs.Ythcdfknadcdfkaa
open Go.RowKit
set_option linter.unusedVariables false
set_option linter.unusedSimpArgs false
set_option maxRecDepth 100000
section
variable {w w' : World} {B b nb : Nat} {v : Value} {rm : Nat} {W : List Qe} {cl : Bool} {rf tk dr : Nat} {last : Int}
set_option maxHeartbeats 1600000 in
theorem lcounts (h : Lk w B b nb v rm W cl rf tk dr) (hl : W.length ≤ 16) (hs : tk + dr ≤ 1000000000000000000) : Calls Try.prog 19 #[.pointer (some ⟨b, 0, none⟩)] w fun e w' => e = .returned (cntV ((tk : Int) + dr + W.length) rf tk dr W.length) ∧ Below w.heap.size w w' := by
  have hsee := own_seesG qeC_len Qe.nil h.row
  obtain ⟨a, cap, rfl, hcap, hm⟩ := hsee.shape
  have hlt := h.hp.lt
  have hw1 : IntKind.i64.wrap ((tk : Int) + dr) = tk + dr := by rw [IntKind.wrap_i64]; omega
  have hw2 : IntKind.i64.wrap ((tk : Int) + dr + W.length) = tk + dr + W.length := by rw [IntKind.wrap_i64]; omega
  obtain ⟨X, HX, HoX, hbX, hzX⟩ : ∃ X, Hid (w.alloc (.cells #[.int .i64 0, .int .i64 0, .int .i64 0, .int .i64 0, .int .i64 0] 53) = X) ∧ Hid (Hp X w.heap.size 53 (cntC 0 0 0 0 0)) ∧ Below w.heap.size w X ∧ X.heap.size = w.heap.size + 1 := ⟨_, rfl, Hp.new w _ _, below_allocG _ _, by simp⟩
  have HL := keepG (h.below hbX)
  obtain ⟨c0, c1, c2, c3, c4, c5, c6⟩ := HL.out.low
  have HK : Hid (∀ wx : World, Below w.heap.size w wx → wx.cell? ⟨b, 4, none⟩ = some (.int .i64 rf) ∧ wx.cell? ⟨b, 5, none⟩ = some (.int .i64 tk) ∧ wx.cell? ⟨b, 6, none⟩ = some (.int .i64 dr)) := fun wx hb => have g := (h.below hb).low; ⟨g.2.2.2.2.1, g.2.2.2.2.2.1, g.2.2.2.2.2.2⟩
  obtain ⟨x0, x1, x2, x3, x4, g0, g1, g2, g3, g4⟩ := cnt10 HoX.out
  clear h hsee
  obtain ⟨U, HU, hbU⟩ : ∃ U, Hid (X.setCells w.heap.size 0 (cntC ((tk : Int) + dr + W.length) rf tk dr W.length) = U) ∧ Below w.heap.size w U := ⟨_, rfl, hbX.trans (grown_to_below (grown_sets w.heap.size (cntC ((tk : Int) + dr + W.length) rf tk dr W.length) X 0) (Nat.le_refl _) hbX.size)⟩
  go_enter Try.func19, Try.ntmps19
  go_wp2_with (rw [HX.out])
  refine wp_region_held_drew (S := fun w' => w'.cell? ⟨b, 4, none⟩ = some (.int .i64 rf) ∧ w'.cell? ⟨b, 5, none⟩ = some (.int .i64 tk) ∧ w'.cell? ⟨b, 6, none⟩ = some (.int .i64 dr)) (by kernel_rfl) (HK.out _ (below_drG hbX)) (fun hHeld => ?_)
  refine tkGo [0, 1, 2, 3, 4, 5, 6, 7, 8, 9, 10, 11, 12, 13, 14, 15, 16, 17, 18, 19, 20, 21, 22, 23, 24] ?_
  repeat (refine tkOne (v := ?_) rfl (by kernel_rfl) (by kernel_rfl) (by kernel_rfl) (fun _ _ _ h => h) (by assumption) (by rfl) ?_ ?_; rotate_left; (intro wy hSw; (try dsimp only at hSw); go_simp; (first | done | with_reducible rfl)); try simp only [Act.put, List.getElem_toArray, List.getElem_cons_zero, List.getElem_cons_succ, List.setIfInBounds_toArray, List.set_cons_zero, List.set_cons_succ])
  refine tkEnd ?_
  refine wpAnyH_ready (rs := [25]) (by kernel_rfl) (by simp) ?_
  refine AllReadyH.cons rfl (fun KK hK => ?_) AllReadyH.nil
  rw [if_pos (by rfl)]
  go_simp
  have hUd : (X.drew.setCells w.heap.size 0 (cntC ((tk : Int) + dr + W.length) rf tk dr W.length)) = U.drew := by rw [← HU.out]; rfl
  refine hK.out _ _ (HK.out _ (by have := below_drG hbU; rw [← hUd] at this; exact this)) (fun hHeld => ?_)
  clear hK KK
  try simp only [Act.put, List.getElem_toArray, List.getElem_cons_zero, List.getElem_cons_succ, List.setIfInBounds_toArray, List.set_cons_zero, List.set_cons_succ]
  refine wpAnyH_done (by kernel_rfl) ?_ _
  go_wp2
  exact cnt_end (n := 1) HoX.out hbX rfl rfl rfl
set_option maxHeartbeats 1600000 in
theorem ltake_no (h : Lk w B b nb v rm [] cl rf tk dr) : Calls Try.prog 12 #[.pointer (some ⟨b, 0, none⟩)] w fun e w' => e = .returned (.tuple #[qeV Qe.nil, .bool false]) ∧ Below w.heap.size w w' := by
  obtain ⟨X, HX, HoX, hbX⟩ : ∃ X, Hid (w.alloc (.cells #[.int .i64 0, .int .u64 0, .int .u64 0] 46) = X) ∧ Hid (Hp X w.heap.size 46 (qeC Qe.nil)) ∧ Below w.heap.size w X := ⟨_, rfl, Hp.new w _ _, below_allocG _ _⟩
  obtain ⟨a, cap, rfl, hcap, hm⟩ := (own_seesG qeC_len Qe.nil h.row).shape
  have HL := keepG (h.below hbX)
  obtain ⟨_, _, c2, _⟩ := HL.out.low
  have d0 := HoX.out.cell (j := 0) rfl
  have d1 := HoX.out.cell (j := 1) rfl
  have d2 := HoX.out.cell (j := 2) rfl
  have f0 := HoX.out.frozen 0
  have f1 := HoX.out.frozen 1
  have f2 := HoX.out.frozen 2
  go_enter Try.func12, Try.ntmps12
  go_wp2_with (rw [HX.out])
  have hb : Below w.heap.size w (X.setCells w.heap.size 0 (qeC Qe.nil)) := hbX.trans (grown_to_below (grown_sets w.heap.size (qeC Qe.nil) X 0) (Nat.le_refl _) hbX.size)
  exact que_ret rfl rfl rfl (HoX.out.sets (qeC Qe.nil) 0) ⟨rfl, hb⟩
end
end Go.Proofs.Ythcdfknadcdfkaa
