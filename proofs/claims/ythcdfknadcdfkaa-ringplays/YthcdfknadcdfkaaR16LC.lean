
/-
  The landed ring of layer 16: Take, where an event waits. Condition: it lies where the pointer says, its row is the call's own.
-/
import Derived.Test.YthcdfknadcdfkaaR16LB
namespace Go.Proofs.Ythcdfknadcdfkaa
open Go.RowKit
set_option linter.unusedVariables false
set_option linter.unusedSimpArgs false
set_option maxRecDepth 100000
section
variable {w w' : World} {B b nb : Nat} {v : Value} {rm : Nat} {W : List Qe} {cl : Bool} {rf tk dr : Nat} {last : Int}
set_option maxHeartbeats 3200000 in
theorem ltake_yes {q : Qe} {l : List Qe} (h : Lk w B b nb v rm (q :: l) cl rf tk dr) (hl : l.length ≤ 15) (ht : tk ≤ 1000000000000000000) : Calls Try.prog 12 #[.pointer (some ⟨b, 0, none⟩)] w fun e w' => e = .returned (.tuple #[qeV q, .bool true]) ∧ ∃ v', Lk w' B b nb v' rm l cl rf (tk + 1) dr ∧ Chg w w' (bkS b v) ∧ v'.ownBlock = v.ownBlock := by
  obtain ⟨X, HX, HoX, hbX⟩ : ∃ X, Hid (w.alloc (.cells #[.int .i64 0, .int .u64 0, .int .u64 0] 46) = X) ∧ Hid (Hp X w.heap.size 46 (qeC Qe.nil)) ∧ Below w.heap.size w X := ⟨_, rfl, Hp.new w _ _, below_allocG _ _⟩
  obtain ⟨g, cap, rfl, hBg, hgl, hnc, hcm, hat⟩ := own_atG qeC_len Qe.nil h.row (by simp)
  have hlt := h.hp.lt
  have hap := h.apart
  have hgb : g ≠ b := fun e => hap (by rw [e]; rfl)
  obtain ⟨qn, qa, qb⟩ := q
  have HD : Hid (∀ wx : World, Below w.heap.size w wx → wx.cell? ⟨g, 0, none⟩ = some (.int .i64 qn) ∧ wx.cell? ⟨g, 1, none⟩ = some (.int .u64 qa) ∧ wx.cell? ⟨g, 2, none⟩ = some (.int .u64 qb)) := fun wx hb => by
    have d0 := (hat 0 (by simp) 0 (by omega)).1
    have d1 := (hat 0 (by simp) 1 (by omega)).1
    have d2 := (hat 0 (by simp) 2 (by omega)).1
    simp at d0 d1 d2
    exact ⟨(hb.cell (p := ⟨g, 0, none⟩) hgl).trans d0, (hb.cell (p := ⟨g, 1, none⟩) hgl).trans d1, (hb.cell (p := ⟨g, 2, none⟩) hgl).trans d2⟩
  have HL := keepG (h.below hbX)
  obtain ⟨Y, HY, HqY, HoY, hbY, hzY⟩ : ∃ Y, Hid (X.alloc (.cells #[.int .i64 qn, .int .u64 qa, .int .u64 qb] 46) = Y) ∧ Hid (Hp Y X.heap.size 46 (qeC ⟨qn, qa, qb⟩)) ∧ Hid (Hp Y w.heap.size 46 (qeC Qe.nil)) ∧ Below X.heap.size X Y ∧ Y.heap.size = X.heap.size + 1 := ⟨_, rfl, Hp.new X (qeC ⟨qn, qa, qb⟩) _, HoX.out.alloc _, below_allocG X _, by simp⟩
  have HLY := keepG (HL.out.below hbY)
  obtain ⟨_, _, c2, _⟩ := HL.out.low
  obtain ⟨_, _, e2, _⟩ := HLY.out.low
  obtain ⟨d0, d1, d2⟩ := HD.out X hbX
  have hbwY : Below w.heap.size w Y := hbX.trans (hbY.mono hbX.size)
  have hw1 : IntKind.i64.wrap ((tk : Int) + 1) = (tk : Int) + 1 := by rw [IntKind.wrap_i64]; omega
  have hlen : (({ n := qn, a := qa, b := qb } : Qe) :: l).length = l.length + 1 := rfl
  have e3 : (X.alloc (.cells #[.int .i64 qn, .int .u64 qa, .int .u64 qb] 46)).cell? ⟨b, 2, none⟩ = some (.slice (some ⟨g, 0, none⟩) (l.length + 1) cap) := by rw [HY.out]; exact e2
  have n1 : ¬ b = X.heap.size := by have := hbX.size; omega
  have n2 : ¬ X.heap.size = b := by omega
  have n3 : ¬ b = w.heap.size := by omega
  have n4 : ¬ w.heap.size = b := by omega
  clear h hat
  go_enter Try.func12, Try.ntmps12
  go_wp2_with (first
    | rw [HX.out]
    | (go_at_call 23; rw [HY.out]; go_must (refine (qdel_at (i := 0) (n := l.length) HLY.out.row (by simp; omega) (by simp) rfl).mono ?_); rintro e Z ⟨v', rfl, hv', hcZ, hbk⟩; go_must (obtain ⟨va, vc, rfl⟩ := own_shape hv'; have HV := keepG hv'; have HbZ := keepG (HLY.out.hp.chg hcZ (fun e => hgb e.symm)); have HqZ := keepG (HqY.out.chg hcZ (fun e => by have := hbX.size; omega)); have HoZ := keepG (HoY.out.chg hcZ (fun e => by omega)); have z2 := HbZ.out.cell (j := 2) rfl; have z5 := HbZ.out.cell (j := 5) rfl; have fz2 := HbZ.out.frozen 2; have fz5 := HbZ.out.frozen 5; have q0 := HqZ.out.cell (j := 0) rfl; have q1 := HqZ.out.cell (j := 1) rfl; have q2 := HqZ.out.cell (j := 2) rfl; have o0 := HoZ.out.cell (j := 0) rfl; have o1 := HoZ.out.cell (j := 1) rfl; have o2 := HoZ.out.cell (j := 2) rfl; have fo0 := HoZ.out.frozen 0; have fo1 := HoZ.out.frozen 1; have fo2 := HoZ.out.frozen 2; clear hv')))
  have hc1 : Chg Z ((Z.setCell ⟨b, 2, none⟩ (.slice va l.length vc)).setCell ⟨b, 5, none⟩ (.int .i64 ((tk : Int) + 1))) (fun k => k = b ∨ k = w.heap.size) := ((Chg.set Z b 2 _).trans (Chg.set _ b 5 _) (fun _ _ e => e)).mono (fun k e => .inl e)
  have hc2 := hc1.trans (Chg.sets _ w.heap.size 0 (qeC ⟨qn, qa, qb⟩)) (fun k _ e => .inr e)
  have hc3 := ((Chg.of_below (S := bkS b (.slice (some ⟨g, 0, none⟩) (l.length + 1) cap)) hbwY).trans hcZ (fun k _ e => .inr (by rw [e]; rfl))).trans hc2 (fun k hk e => by rcases e with e | e; exact .inl e; omega)
  have hp2 := (((HbZ.out.set 2 (.slice va l.length vc)).set 5 (.int .i64 ((tk : Int) + 1))).fars n3 (qeC ⟨qn, qa, qb⟩) 0)
  refine que_ret rfl rfl rfl (((HoZ.out.far (b' := b) n4).far (b' := b) n4).sets (qeC ⟨qn, qa, qb⟩) 0) ⟨rfl, _, ⟨hp2, own_chg HV.out hc2 (fun k hk e => ?_)⟩, hc3, hbk⟩
  have := Option.some.inj (hbk.symm.trans hk)
  rcases e with e | e
  · exact hgb (by omega)
  · omega
end
end Go.Proofs.Ythcdfknadcdfkaa
