/-
  SpanHolds, walked where a span is not right: it answers true. Condition: numbers of 64 bits.
-/
import Derived.Test.YtammakfpmimljaaS6WAsks
import Derived.Deep.RegionWith
import Derived.Deep.CutRange
namespace Go.Proofs.Ytammakfpmimljaa
open Go.RowKit
set_option linter.unusedVariables false
set_option maxRecDepth 20000

/-- The box of an Ask. -/
abbrev askO (a A b B x y : Int) : Obj := .cells #[.int .u64 a, .int .u64 A, .int .u64 b, .int .u64 B, .int .u64 x, .int .u64 y] 44
theorem cell_next {w0 w1 : World} {p : Addr} {v : Value} (h : w0.cell? p = some v) (hb : Below w0.heap.size w0 w1) : w1.cell? p = some v := by
  rw [hb.cell (World.block_lt_of_cell? w0 p h)]; exact h
theorem cell_lt {w0 : World} {n i : Nat} {v : Value} (h : w0.cell? ⟨n, i, none⟩ = some v) : n < w0.heap.size := World.block_lt_of_cell? w0 _ h
/-- Two spans, boxed, and the two numbers of the Ask. -/
def Two (wr : World) (q pa pb : Nat) (a A b B x y : Int) : Prop := (wr.cell? ⟨pa, 0, none⟩ = some (.int .u64 a) ∧ wr.cell? ⟨pa, 1, none⟩ = some (.int .u64 A)) ∧ (wr.cell? ⟨pb, 0, none⟩ = some (.int .u64 b) ∧ wr.cell? ⟨pb, 1, none⟩ = some (.int .u64 B)) ∧ wr.cell? ⟨q, 4, none⟩ = some (.int .u64 x) ∧ wr.cell? ⟨q, 5, none⟩ = some (.int .u64 y)
theorem Two.next {w w' : World} {q pa pb : Nat} {a A b B x y : Int} (h : Two w q pa pb a A b B x y) (hb : Below w.heap.size w w') : Two w' q pa pb a A b B x y :=
  ⟨⟨cell_next h.1.1 hb, cell_next h.1.2 hb⟩, ⟨cell_next h.2.1.1 hb, cell_next h.2.1.2 hb⟩, cell_next h.2.2.1 hb, cell_next h.2.2.2 hb⟩
theorem two_new (w : World) (q : Nat) (a A b B x y : Int) (h4 : w.cell? ⟨q, 4, none⟩ = some (.int .u64 x)) (h5 : w.cell? ⟨q, 5, none⟩ = some (.int .u64 y)) : Two ((w.alloc (spO a A)).alloc (spO b B)).drew q w.heap.size (w.heap.size + 1) a A b B x y ∧ Two ((w.alloc (spO b B)).alloc (spO a A)).drew q (w.heap.size + 1) w.heap.size a A b B x y := by
  have g : ∀ o1 o2 : Obj, Below w.heap.size w ((w.alloc o1).alloc o2) := fun o1 o2 => by go_grown
  have n1 : ∀ (o1 : Obj) (c d : Int), ((w.alloc o1).alloc (spO c d)).cell? ⟨w.heap.size + 1, 0, none⟩ = some (.int .u64 c) ∧ ((w.alloc o1).alloc (spO c d)).cell? ⟨w.heap.size + 1, 1, none⟩ = some (.int .u64 d) := fun o1 c d => ⟨by go_cell, by go_cell⟩
  have n0 : ∀ (o2 : Obj) (c d : Int), ((w.alloc (spO c d)).alloc o2).cell? ⟨w.heap.size, 0, none⟩ = some (.int .u64 c) ∧ ((w.alloc (spO c d)).alloc o2).cell? ⟨w.heap.size, 1, none⟩ = some (.int .u64 d) := fun o2 c d => ⟨by go_cell, by go_cell⟩
  exact ⟨⟨n0 _ a A, n1 _ b B, cell_next h4 (below_dr (g _ _)), cell_next h5 (below_dr (g _ _))⟩, ⟨n1 _ a A, n0 _ b B, cell_next h4 (below_dr (g _ _)), cell_next h5 (below_dr (g _ _))⟩⟩
set_option maxHeartbeats 1600000 in
theorem holds_no (a A b B x y : Int) (w : World) (ha : W64 a) (hA : W64 A) (hb : W64 b) (hB : W64 B) (hno : ¬ (a ≤ A ∧ b ≤ B)) :
    Calls Try.prog 7 #[.agg #[.int .u64 a, .int .u64 A, .int .u64 b, .int .u64 B, .int .u64 x, .int .u64 y]] w fun e w' => e = .returned (.bool true) ∧ Below w.heap.size w w' := by
  have HE : Hid (doR 1 a A b B = none) := by show _ = _; unfold doR; rw [if_neg (fun h => hno h.2)]
  have HD : Hid (∀ w, Calls Try.prog 22 #[.int .i64 1, .agg #[.int .u64 a, .int .u64 A], .agg #[.int .u64 b, .int .u64 B]] w fun e w' => e = .returned (.tuple #[.agg #[.int .u64 0, .int .u64 0], .bool false]) ∧ Below w.heap.size w w') := fun w => by
    have h := ldo_any 1 a A b B w ha hA hb hB
    rw [HE.out] at h
    exact h
  obtain ⟨r1, H1⟩ : ∃ r, Hid (r = decide (a ≤ A)) := ⟨_, rfl⟩
  obtain ⟨r2, H2⟩ : ∃ r, Hid (r = decide (b ≤ B)) := ⟨_, rfl⟩
  have HR : Hid ((r1 && r2) = false) := by show _ = _; rw [H1.out, H2.out, ← Bool.decide_and, decide_eq_false hno]
  clear ha hA hb hB hno HE
  go_enter Try.func7, Try.ntmps7
  go_wp2_with (first
    | (go_at_call 9; go_must (refine (awake6 _).mono ?_); rintro e w0 ⟨rfl, hb0⟩; go_must (have q0 : w0.cell? ⟨w.heap.size, 0, none⟩ = some (.int .u64 a) := cell_next (by go_cell) hb0; have q1 : w0.cell? ⟨w.heap.size, 1, none⟩ = some (.int .u64 A) := cell_next (by go_cell) hb0; have q2 : w0.cell? ⟨w.heap.size, 2, none⟩ = some (.int .u64 b) := cell_next (by go_cell) hb0; have q3 : w0.cell? ⟨w.heap.size, 3, none⟩ = some (.int .u64 B) := cell_next (by go_cell) hb0; have q4 : w0.cell? ⟨w.heap.size, 4, none⟩ = some (.int .u64 x) := cell_next (by go_cell) hb0; have q5 : w0.cell? ⟨w.heap.size, 5, none⟩ = some (.int .u64 y) := cell_next (by go_cell) hb0; have z0 := cell_lt q0; have hbe : Below w.heap.size w w0 := boxS_below hb0; clear hb0))
    | (go_at_call 10; fail))
  go_cut [3, 4] from 26 (fun s3 s4 wx => ∃ pa pb : Nat, s3 = .pointer (some ⟨pa, 0, none⟩) ∧ s4 = .pointer (some ⟨pb, 0, none⟩) ∧ Two wx w.heap.size pa pb a A b B x y ∧ Below w.heap.size w wx)
  case first =>
    have HT : Hid _ := two_new w0 w.heap.size a A b B x y q4 q5
    go_region
    all_goals (go_wp2_with fail; go_meet; refine ⟨_, _, rfl, rfl, ?_, ?_⟩)
    · exact HT.out.1
    · exact below_dr ((hbe.alloc hbe.size _).alloc (by have := hbe.size; simp; omega) _)
    · exact HT.out.2
    · exact below_dr ((hbe.alloc hbe.size _).alloc (by have := hbe.size; simp; omega) _)
  case rest =>
    clear q0 q1 q2 q3 q4 q5 z0 hbe
    obtain ⟨pa, pb, rfl, rfl, hT, hbe⟩ := hcut
    obtain ⟨⟨c0, c1⟩, ⟨d0, d1⟩, -, -⟩ := id hT
    have z1 := cell_lt c0
    have z2 := cell_lt d0
    have HT : Hid (Two wc w.heap.size pa pb a A b B x y) := hT
    clear hT
    have P1 : Hid True := trivial
    cases r1
    · go_wp2_with (first
        | (go_at_call 10; go_must (refine (lright_as H1 _).mono ?_); rintro e w1 ⟨rfl, hb1⟩; go_must (have HT1 : Hid (Two w1 w.heap.size pa pb a A b B x y) := HT.out.next hb1; have hbe1 : Below w.heap.size w w1 := hbe.trans (hb1.mono hbe.size); obtain ⟨⟨c0', c1'⟩, ⟨d0', d1'⟩, -, -⟩ := HT1.out; clear hb1 hbe HT c0 c1 d0 d1))
        | (go_at_call 22; go_must (refine (HD.out _).mono ?_); rintro e w3 ⟨rfl, hb3⟩; go_must (have hbe3 : Below w.heap.size w w3 := hbe1.trans (hb3.mono hbe1.size))))
      go_ret
      exact ⟨rfl, hbe3.alloc hbe3.size _⟩
    · obtain rfl : r2 = false := by have := HR.out; simpa using this
      go_wp2_with (first
        | (go_at_call 10; have hq := P1; clear hq P1; go_must (refine (lright_as H1 _).mono ?_); rintro e w1 ⟨rfl, hb1⟩; go_must (have HT1 : Hid (Two w1 w.heap.size pa pb a A b B x y) := HT.out.next hb1; have hbe1 : Below w.heap.size w w1 := hbe.trans (hb1.mono hbe.size); obtain ⟨⟨c0', c1'⟩, ⟨d0', d1'⟩, -, -⟩ := HT1.out; clear hb1 hbe HT c0 c1 d0 d1))
        | (go_at_call 10; go_must (refine (lright_as H2 _).mono ?_); rintro e w2 ⟨rfl, hb2⟩; go_must (have HT2 : Hid (Two w2 w.heap.size pa pb a A b B x y) := HT1.out.next hb2; have hbe2 : Below w.heap.size w w2 := hbe1.trans (hb2.mono hbe1.size); obtain ⟨⟨e0, e1⟩, ⟨g0, g1⟩, -, -⟩ := HT2.out; clear hb2 hbe1 HT1 c0' c1' d0' d1'))
        | (go_at_call 22; go_must (refine (HD.out _).mono ?_); rintro e w3 ⟨rfl, hb3⟩; go_must (have hbe3 : Below w.heap.size w w3 := hbe2.trans (hb3.mono hbe2.size))))
      go_ret
      exact ⟨rfl, hbe3.alloc hbe3.size _⟩
end Go.Proofs.Ytammakfpmimljaa
