
/-
  Layer 20: rows of tallies; equal ones are alike. No condition.
-/
import Derived.Test.YtjhjfojmojjomaaTk
import Derived.Test.YtjhjfojmojjomaaS20DB
namespace Go.Proofs.Ytjhjfojmojjomaa
open Go.RowKit
set_option linter.unusedVariables false
set_option linter.unusedSimpArgs false
set_option maxRecDepth 100000
theorem infoTa : (Try.prog.info? 40).map (fun i => (i.zero, i.size, i.bytes)) = some (some (.agg #[.int .u64 0, .int .u64 0, .int .u64 0, .int .u64 0, .int .u64 0]), 5, 40) := by kernel_rfl
/-- A row of tallies of the call's own. -/
def RoTa (w : World) (B : Nat) (v : Value) (A : List Ta) : Prop := w.ownsRow B 40 5 v A.length (flatG taC A)
section
variable {w w' : World} {B : Nat} {v : Value} {A : List Ta}
theorem RoTa.sees (h : RoTa w B v A) : SeesG taC 5 Ta.nil w v A := own_seesG taC_len Ta.nil h
theorem RoTa.below (h : RoTa w B v A) (hb : Below w.heap.size w w') : RoTa w' B v A := own_below h hb (Nat.le_refl _)
theorem taAt {a : Option Addr} {n cap : Nat} (h : SeesG taC 5 Ta.nil w (.slice a n cap) A) {j : Nat} (hj : j < A.length) : ∃ p off, a = some ⟨p, off, none⟩ ∧ ∀ i, i < A.length → ∀ t, A.getD i Ta.nil = t → w.cell? ⟨p, off + i * 5, none⟩ = some (.int .u64 t.r) ∧ w.cell? ⟨p, off + i * 5 + 1, none⟩ = some (.int .u64 t.m) ∧ w.cell? ⟨p, off + i * 5 + 2, none⟩ = some (.int .u64 t.s) ∧ w.cell? ⟨p, off + i * 5 + 3, none⟩ = some (.int .u64 t.c) ∧ w.cell? ⟨p, off + i * 5 + 4, none⟩ = some (.int .u64 t.u) := by
  obtain ⟨a', cap', ev, _, _, _, hat⟩ := h
  simp only [Value.slice.injEq] at ev
  obtain ⟨rfl, _, rfl⟩ := ev
  obtain ⟨p, off, rfl, _, hc⟩ := hat (fun e => by rw [e] at hj; simp at hj)
  refine ⟨p, off, rfl, fun i hi t ht => ?_⟩
  have g0 := hc i hi 0 (by omega)
  have g1 := hc i hi 1 (by omega)
  have g2 := hc i hi 2 (by omega)
  have g3 := hc i hi 3 (by omega)
  have g4 := hc i hi 4 (by omega)
  rw [ht] at g0 g1 g2 g3 g4
  exact ⟨g0, g1, g2, g3, g4⟩
set_option maxHeartbeats 3200000 in
/-- Equal rows are alike. -/
theorem wtallies {va vb : Value} (ha : SeesG taC 5 Ta.nil w va A) (hb : SeesG taC 5 Ta.nil w vb A) : Calls Try.prog 13 #[va, vb] w fun e w' => e = .returned (.bool true) ∧ Below w.heap.size w w' := by
  have HA := keepG (fun (wr : World) (hc : Below w.heap.size w wr) => ha.below hc (Nat.le_refl _))
  have HB := keepG (fun (wr : World) (hc : Below w.heap.size w wr) => hb.below hc (Nat.le_refl _))
  obtain ⟨a1, c1, ev1, hl1, hm1⟩ := ha.shape
  obtain ⟨a2, c2, ev2, hl2, hm2⟩ := hb.shape
  subst ev1 ev2
  have hAl : A.length ≤ 9223372036854775807 := by omega
  clear ha hb
  go_enter Try.func13, Try.ntmps13
  go_wp2
  go_loopw [5] (fun i wr => ∃ j : Nat, j ≤ A.length ∧ i = .int .i64 j ∧ Hid (Below w.heap.size w wr)) (fun i _ => A.length - (intOf i).toNat)
  case atStart => exact ⟨0, by omega, rfl, Below.refl _ _⟩
  case round =>
    obtain ⟨j, hj, rfl, HBW⟩ := hrel
    rename World => wr
    by_cases hlt : j < A.length
    · have hltI : (j : Int) < A.length := by omega
      obtain ⟨p1, o1, ev1, hat1⟩ := taAt (HA.out wr HBW.out) hlt
      obtain ⟨p2, o2, ev2, hat2⟩ := taAt (HB.out wr HBW.out) hlt
      subst ev1 ev2
      obtain ⟨t, HT⟩ : ∃ t, Hid (A.getD j Ta.nil = t) := ⟨_, rfl⟩
      obtain ⟨d0, d1, d2, d3, d4⟩ := hat1 j hlt t HT.out
      obtain ⟨e0, e1, e2, e3, e4⟩ := hat2 j hlt t HT.out
      obtain ⟨r, m, s, c, u⟩ := t
      simp only at d0 d1 d2 d3 d4 e0 e1 e2 e3 e4
      clear hat1 hat2
      have HBd := keepG (below_drG HBW.out)
      go_wp2
      refine wp_region_held_drew (S := fun w' => (w'.cell? ⟨p1, o1 + j * 5, none⟩ = some (.int .u64 r) ∧ w'.cell? ⟨p1, o1 + j * 5 + 1, none⟩ = some (.int .u64 m) ∧ w'.cell? ⟨p1, o1 + j * 5 + 2, none⟩ = some (.int .u64 s) ∧ w'.cell? ⟨p1, o1 + j * 5 + 3, none⟩ = some (.int .u64 c) ∧ w'.cell? ⟨p1, o1 + j * 5 + 4, none⟩ = some (.int .u64 u)) ∧ w'.cell? ⟨p2, o2 + j * 5, none⟩ = some (.int .u64 r) ∧ w'.cell? ⟨p2, o2 + j * 5 + 1, none⟩ = some (.int .u64 m) ∧ w'.cell? ⟨p2, o2 + j * 5 + 2, none⟩ = some (.int .u64 s) ∧ w'.cell? ⟨p2, o2 + j * 5 + 3, none⟩ = some (.int .u64 c) ∧ w'.cell? ⟨p2, o2 + j * 5 + 4, none⟩ = some (.int .u64 u)) (by kernel_rfl) ⟨⟨d0, d1, d2, d3, d4⟩, e0, e1, e2, e3, e4⟩ (fun hHeld => ?_)
      refine tkGo [0, 1, 2, 3, 4, 5, 6, 7, 8] ?_
      repeat (refine tkOne (v := ?_) rfl (by kernel_rfl) (by kernel_rfl) (by kernel_rfl) (fun _ _ _ h => h) (by assumption) (by rfl) ?_ ?_; rotate_left; (intro wy hSw; (try dsimp only at hSw); go_simp; (first | done | with_reducible rfl)); try simp only [Act.put, List.getElem_toArray, List.getElem_cons_zero, List.getElem_cons_succ, List.setIfInBounds_toArray, List.set_cons_zero, List.set_cons_succ])
      refine tkEnd ?_
      refine wpAnyH_done (by kernel_rfl) ?_ _
      clear hHeld
      go_wp2
      go_roundw
      case rel => exact ⟨j + 1, by omega, by go_num, HBd.out⟩
      case measure => simp [intOf]; omega
    · have hltI : ¬ (j : Int) < A.length := by omega
      go_wp2
      go_ret
      exact ⟨rfl, HBW.out⟩
end
end Go.Proofs.Ytjhjfojmojjomaa
