
/-
  What the laws of layer 16 share: events that wait, held against one another; their arguments opened. No condition.
-/
import Derived.Test.YthcdfknadcdfkaaTk
import Derived.Test.YthcdfknadcdfkaaR16LE
import Derived.Test.YthcdfknadcdfkaaR16Obj
import Derived.Test.YthcdfknadcdfkaaGOpen
namespace Go.Proofs.Ythcdfknadcdfkaa
open Go.ChangeShapes Go.WideShapes Go.ChangeAt Go.RowKit
set_option linter.unusedVariables false
set_option linter.unusedSimpArgs false
set_option maxRecDepth 100000

/-- An event. -/
structure Ev where
  a : Int
  b : Int
def Ev.nil : Ev := ⟨0, 0⟩
abbrev evC (e : Ev) : List Value := [.int .u64 e.a, .int .u64 e.b]
theorem evC_len (e : Ev) : (evC e).length = 2 := rfl
/-- A call of a script. -/
structure Oc where
  k : Int
  on : Int
  a : Int
  b : Int
def Oc.nil : Oc := ⟨0, 0, 0, 0⟩
abbrev ocC (o : Oc) : List Value := [.int .i64 o.k, .int .i64 o.on, .int .u64 o.a, .int .u64 o.b]
theorem ocC_len (o : Oc) : (ocC o).length = 4 := rfl
set_option maxHeartbeats 4000000 in
/-- Events that are alike. -/
theorem wqueued16 {w : World} {va vb : Value} {A : List Qe} (ha : SeesG qeC 3 Qe.nil w va A) (hb : SeesG qeC 3 Qe.nil w vb A) :
    Calls Try.prog 14 #[va, vb] w fun e w' => e = .returned (.bool true) ∧ ∃ n, w' = w.drewN n := by
  obtain ⟨a1, c1, rfl, hc1, hm1, _, hat1⟩ := ha
  obtain ⟨a2, c2, rfl, hc2, hm2, _, hat2⟩ := hb
  unfold maxLen at hm1 hm2
  have HA := keepG hat1
  have HB := keepG hat2
  clear hat1 hat2
  go_enter Try.func14, Try.ntmps14
  go_wp2
  go_loopw [5] (fun i wr => ∃ j : Nat, j ≤ A.length ∧ i = .int .i64 j ∧ ∃ n, wr = w.drewN n) (fun i _ => A.length - (intOf i).toNat)
  case atStart => exact ⟨0, by omega, rfl, 0, rfl⟩
  case round =>
    obtain ⟨j, hj, rfl, n, rfl⟩ := hrel
    by_cases hlt : j < A.length
    · have hltI : (j : Int) < A.length := by omega
      obtain ⟨g1, o1, rfl, _, h1⟩ := HA.out (fun e => by rw [e] at hlt; simp at hlt)
      obtain ⟨g2, o2, rfl, _, h2⟩ := HB.out (fun e => by rw [e] at hlt; simp at hlt)
      obtain ⟨p, HP⟩ : ∃ p, Hid (A.getD j Qe.nil = p) := ⟨_, rfl⟩
      have d0 := h1 j hlt 0 (by omega)
      have d1 := h1 j hlt 1 (by omega)
      have d2 := h1 j hlt 2 (by omega)
      have e0 := h2 j hlt 0 (by omega)
      have e1 := h2 j hlt 1 (by omega)
      have e2 := h2 j hlt 2 (by omega)
      rw [HP.out] at d0 d1 d2 e0 e1 e2
      simp only [List.getElem?_cons_zero, List.getElem?_cons_succ, Nat.add_zero] at d0 d1 d2 e0 e1 e2
      clear h1 h2
      go_wp2
      refine wp_region_held_drew (S := fun w' => w'.cell? ⟨g1, o1 + j * 3, none⟩ = some (.int .i64 p.n) ∧ w'.cell? ⟨g1, o1 + j * 3 + 1, none⟩ = some (.int .u64 p.a) ∧ w'.cell? ⟨g1, o1 + j * 3 + 2, none⟩ = some (.int .u64 p.b) ∧ w'.cell? ⟨g2, o2 + j * 3, none⟩ = some (.int .i64 p.n) ∧ w'.cell? ⟨g2, o2 + j * 3 + 1, none⟩ = some (.int .u64 p.a) ∧ w'.cell? ⟨g2, o2 + j * 3 + 2, none⟩ = some (.int .u64 p.b)) (by kernel_rfl) ⟨d0, d1, d2, e0, e1, e2⟩ (fun hHeld => ?_)
      refine tkGo [0, 1, 2, 3, 4, 5, 6, 7, 8] ?_
      repeat (refine tkOne (v := ?_) rfl (by kernel_rfl) (by kernel_rfl) (by kernel_rfl) (fun _ _ _ h => h) (by assumption) (by rfl) ?_ ?_; rotate_left; (intro wy hSw; (try dsimp only at hSw); go_simp; (first | done | with_reducible rfl)); try simp only [Act.put, List.getElem_toArray, List.getElem_cons_zero, List.getElem_cons_succ, List.setIfInBounds_toArray, List.set_cons_zero, List.set_cons_succ])
      refine tkEnd ?_
      refine wpAnyH_done (by kernel_rfl) ?_ _
      go_wp2
      go_roundw
      case rel => exact ⟨j + 1, by omega, by go_num, n + 1, rfl⟩
      case measure => simp [intOf]; omega
    · have hltI : ¬ (j : Int) < A.length := by omega
      go_wp2
      go_ret
      exact ⟨rfl, n, rfl⟩
theorem event_cells {H : Type} {enc : TypeId × Value → H} {W : World} {base fuel : Nat} {sp : Nat → Bool} {held : Bool} {cs : List Value} {x : DataW H × List MemPlace}
    (h : DataW.trod enc Try.prog W base sp held fuel 38 cs = some x) : ∃ e : Ev, cs = evC e ∧ True := by
  obtain ⟨xs, n, rfl, hx, hl, hlen, hf⟩ := DataW.trod_struct Try.underlying38 h
  have l5 : cs.length = 2 := by rw [hl]; kernel_rfl
  have u1 : Try.prog.cellsOf 36 = 1 := by kernel_rfl
  match cs, l5, xs, hlen, hf with
  | [c0, c1], _, [x0, x1], _, hf =>
    have h0 : DataW.trod enc Try.prog W base sp held n 36 (([c0, c1].drop 0).take (Try.prog.cellsOf 36)) = some x0 := hf 0 _ rfl
    have h1 : DataW.trod enc Try.prog W base sp held n 36 (([c0, c1].drop 1).take (Try.prog.cellsOf 36)) = some x1 := hf 1 _ rfl
    rw [u1] at h0 h1
    obtain ⟨a, e0, y0, g0⟩ := DataW.trod_int Try.underlying36 h0
    obtain ⟨b, e1, y1, g1⟩ := DataW.trod_int Try.underlying36 h1
    simp at e0 e1
    subst e0 e1
    exact ⟨⟨a, b⟩, rfl, trivial⟩
theorem op_cells {H : Type} {enc : TypeId × Value → H} {W : World} {base fuel : Nat} {sp : Nat → Bool} {held : Bool} {cs : List Value} {x : DataW H × List MemPlace}
    (h : DataW.trod enc Try.prog W base sp held fuel 40 cs = some x) : ∃ o : Oc, cs = ocC o ∧ True := by
  obtain ⟨xs, n, rfl, hx, hl, hlen, hf⟩ := DataW.trod_struct Try.underlying40 h
  have l5 : cs.length = 4 := by rw [hl]; kernel_rfl
  have u1 : Try.prog.cellsOf 3 = 1 := by kernel_rfl
  have u2 : Try.prog.cellsOf 38 = 2 := by kernel_rfl
  match cs, l5, xs, hlen, hf with
  | [c0, c1, c2, c3], _, [x0, x1, x2], _, hf =>
    have h0 : DataW.trod enc Try.prog W base sp held n 3 (([c0, c1, c2, c3].drop 0).take (Try.prog.cellsOf 3)) = some x0 := hf 0 _ rfl
    have h1 : DataW.trod enc Try.prog W base sp held n 3 (([c0, c1, c2, c3].drop 1).take (Try.prog.cellsOf 3)) = some x1 := hf 1 _ rfl
    have h2 : DataW.trod enc Try.prog W base sp held n 38 (([c0, c1, c2, c3].drop 2).take (Try.prog.cellsOf 38)) = some x2 := hf 2 _ rfl
    rw [u1] at h0 h1
    rw [u2] at h2
    obtain ⟨a, e0, y0, g0⟩ := DataW.trod_int Try.underlying3 h0
    obtain ⟨b, e1, y1, g1⟩ := DataW.trod_int Try.underlying3 h1
    obtain ⟨e, e2, _⟩ := event_cells h2
    simp at e0 e1 e2
    obtain ⟨rfl, rfl⟩ := e2
    subst e0 e1
    exact ⟨⟨a, b, e.a, e.b⟩, rfl, trivial⟩
theorem opens_Op {H : Type} {enc : TypeId × Value → H} {W : World} {base : Nat} {v : Value} {d : DataW H} {p : List MemPlace}
    (hok : Value.okWide Try.prog W .any base 22 v) (h : DataW.Trod enc Try.prog W 0 (fun _ => true) true 22 v d p) :
    ∃ xs, SeesG ocC 4 Oc.nil W v xs ∧ (∀ x ∈ xs, True) ∧ ((d.weights Try.prog 22).all (· ≤ reachBytes) = true → xs.length * 32 ≤ 140737488351232) :=
  opensG Oc.nil (R := fun _ => True) Try.underlying22 (by kernel_rfl) (by decide) ocC_len (by kernel_rfl) op_cells hok h
theorem opens_Event {H : Type} {enc : TypeId × Value → H} {W : World} {base : Nat} {v : Value} {d : DataW H} {p : List MemPlace}
    (hok : Value.okWide Try.prog W .any base 57 v) (h : DataW.Trod enc Try.prog W 0 (fun _ => true) true 57 v d p) :
    ∃ xs, SeesG evC 2 Ev.nil W v xs ∧ (∀ x ∈ xs, True) ∧ ((d.weights Try.prog 57).all (· ≤ reachBytes) = true → xs.length * 16 ≤ 140737488351232) :=
  opensG Ev.nil (R := fun _ => True) Try.underlying57 (by kernel_rfl) (by decide) evC_len (by kernel_rfl) event_cells hok h
end Go.Proofs.Ythcdfknadcdfkaa
