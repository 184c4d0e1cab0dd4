/-
  SpanHolds, walked where both spans are right: it answers true. Condition: numbers of 64 bits.
-/
import Derived.Test.YtammakfpmimljaaS6WHoldsP
import Derived.Deep.RegionHeldLaw
namespace Go.Proofs.Ytammakfpmimljaa
open Go.RowKit
set_option linter.unusedVariables false
set_option maxRecDepth 20000

theorem below_al (w : World) (o : Obj) : Below w.heap.size w (w.alloc o) := (Below.refl _ _).alloc (Nat.le_refl _) o
theorem keepP {w w0 w1 : World} {q pa pb : Nat} {a A b B x y : Int} (h : w0.cell? ⟨pa, 0, none⟩ = some (.int .u64 a) ∧ w0.cell? ⟨pa, 1, none⟩ = some (.int .u64 A) ∧ w0.cell? ⟨q, 4, none⟩ = some (.int .u64 x) ∧ Hid (Two w0 q pa pb a A b B x y ∧ Below w.heap.size w w0)) (hb : Below w0.heap.size w0 w1) :
    w1.cell? ⟨pa, 0, none⟩ = some (.int .u64 a) ∧ w1.cell? ⟨pa, 1, none⟩ = some (.int .u64 A) ∧ w1.cell? ⟨q, 4, none⟩ = some (.int .u64 x) ∧ Hid (Two w1 q pa pb a A b B x y ∧ Below w.heap.size w w1) :=
  have t := h.2.2.2.out.1.next hb
  ⟨t.1.1, t.1.2, t.2.2.1, t, h.2.2.2.out.2.trans (hb.mono h.2.2.2.out.2.size)⟩
theorem keepP0 {w w0 : World} {q pa pb : Nat} {a A b B x y : Int} (t : Two w0 q pa pb a A b B x y) (hb : Below w.heap.size w w0) :
    w0.drew.cell? ⟨pa, 0, none⟩ = some (.int .u64 a) ∧ w0.drew.cell? ⟨pa, 1, none⟩ = some (.int .u64 A) ∧ w0.drew.cell? ⟨q, 4, none⟩ = some (.int .u64 x) ∧ Hid (Two w0.drew q pa pb a A b B x y ∧ Below w.heap.size w w0.drew) :=
  ⟨t.1.1, t.1.2, t.2.2.1, t.next (below_dr (Below.refl _ _)), below_dr hb⟩
def Three (w : World) (p : Nat) (a A x : Int) : Prop := ∀ k : Nat, k < 3 → w.cell? ⟨p, k, none⟩ = some (.int .u64 (three a A x k))
theorem Three.next {w w' : World} {p : Nat} {a A x : Int} (h : Three w p a A x) (hb : Below w.heap.size w w') : Three w' p a A x := fun k hk => cell_next (h k hk) hb
theorem three_new (w : World) (t : TypeId) (a A x : Int) : Three (w.alloc (.cells #[.int .u64 a, .int .u64 A, .int .u64 x] t)) w.heap.size a A x := by
  intro k hk
  obtain rfl | rfl | rfl : k = 0 ∨ k = 1 ∨ k = 2 := by omega
  · show _ = some (Value.int .u64 a); go_cell
  · show _ = some (Value.int .u64 A); go_cell
  · show _ = some (Value.int .u64 x); go_cell
theorem keepQ {w w0 w1 : World} {q pa pb px : Nat} {a A b B x y X : Int} (h : w0.cell? ⟨pb, 0, none⟩ = some (.int .u64 b) ∧ w0.cell? ⟨pb, 1, none⟩ = some (.int .u64 B) ∧ w0.cell? ⟨q, 5, none⟩ = some (.int .u64 y) ∧ Hid (Two w0 q pa pb a A b B x y ∧ Three w0 px a A X ∧ Below w.heap.size w w0)) (hb : Below w0.heap.size w0 w1) :
    w1.cell? ⟨pb, 0, none⟩ = some (.int .u64 b) ∧ w1.cell? ⟨pb, 1, none⟩ = some (.int .u64 B) ∧ w1.cell? ⟨q, 5, none⟩ = some (.int .u64 y) ∧ Hid (Two w1 q pa pb a A b B x y ∧ Three w1 px a A X ∧ Below w.heap.size w w1) :=
  have t := h.2.2.2.out.1.next hb
  ⟨t.2.1.1, t.2.1.2, t.2.2.2, t, h.2.2.2.out.2.1.next hb, h.2.2.2.out.2.2.trans (hb.mono h.2.2.2.out.2.2.size)⟩
theorem keepQ0 {w w0 : World} {q pa pb : Nat} {a A b B x y : Int} (t : TypeId) (X : Int) (h : w0.cell? ⟨pa, 0, none⟩ = some (.int .u64 a) ∧ w0.cell? ⟨pa, 1, none⟩ = some (.int .u64 A) ∧ w0.cell? ⟨q, 4, none⟩ = some (.int .u64 x) ∧ Hid (Two w0 q pa pb a A b B x y ∧ Below w.heap.size w w0)) :
    (w0.alloc (.cells #[.int .u64 a, .int .u64 A, .int .u64 X] t)).drew.cell? ⟨pb, 0, none⟩ = some (.int .u64 b) ∧ (w0.alloc (.cells #[.int .u64 a, .int .u64 A, .int .u64 X] t)).drew.cell? ⟨pb, 1, none⟩ = some (.int .u64 B) ∧ (w0.alloc (.cells #[.int .u64 a, .int .u64 A, .int .u64 X] t)).drew.cell? ⟨q, 5, none⟩ = some (.int .u64 y) ∧ Hid (Two (w0.alloc (.cells #[.int .u64 a, .int .u64 A, .int .u64 X] t)).drew q pa pb a A b B x y ∧ Three (w0.alloc (.cells #[.int .u64 a, .int .u64 A, .int .u64 X] t)).drew w0.heap.size a A X ∧ Below w.heap.size w (w0.alloc (.cells #[.int .u64 a, .int .u64 A, .int .u64 X] t)).drew) :=
  have hb := below_dr (below_al w0 (.cells #[.int .u64 a, .int .u64 A, .int .u64 X] t))
  have u := h.2.2.2.out.1.next hb
  ⟨u.2.1.1, u.2.1.2, u.2.2.2, u, (three_new w0 t a A X).next (below_dr (Below.refl _ _)), h.2.2.2.out.2.trans (hb.mono h.2.2.2.out.2.size)⟩
theorem hst_new {w w0 : World} {q pa pb px : Nat} {a A b B x y X : Int} (t : TypeId) (Y : Int) (h : w0.cell? ⟨pb, 0, none⟩ = some (.int .u64 b) ∧ w0.cell? ⟨pb, 1, none⟩ = some (.int .u64 B) ∧ w0.cell? ⟨q, 5, none⟩ = some (.int .u64 y) ∧ Hid (Two w0 q pa pb a A b B x y ∧ Three w0 px a A X ∧ Below w.heap.size w w0)) :
    Hid (HSt (w0.alloc (.cells #[.int .u64 b, .int .u64 B, .int .u64 Y] t)) pa pb px w0.heap.size a A b B X Y ∧ Below w.heap.size w (w0.alloc (.cells #[.int .u64 b, .int .u64 B, .int .u64 Y] t))) :=
  have hb := below_al w0 (.cells #[.int .u64 b, .int .u64 B, .int .u64 Y] t)
  have u := h.2.2.2.out.1.next hb
  ⟨⟨u.1, u.2.1, h.2.2.2.out.2.1.next hb, three_new w0 t b B Y⟩, h.2.2.2.out.2.2.trans (hb.mono h.2.2.2.out.2.2.size)⟩
theorem hst_step {w w0 w1 : World} {pa pb px py : Nat} {a A b B x y : Int} (h : Hid (HSt w0 pa pb px py a A b B x y ∧ Below w.heap.size w w0)) (hb : Below w0.heap.size w0 w1) : Hid (HSt w1 pa pb px py a A b B x y ∧ Below w.heap.size w w1) := ⟨h.out.1.next hb, h.out.2.trans (hb.mono h.out.2.size)⟩
theorem hst_al {w w0 : World} {pa pb px py : Nat} {a A b B x y : Int} (h : Hid (HSt w0 pa pb px py a A b B x y ∧ Below w.heap.size w w0)) (o : Obj) : Hid (HSt (w0.alloc o) pa pb px py a A b B x y ∧ Below w.heap.size w (w0.alloc o)) := hst_step h (below_al w0 o)
theorem hst_dr {w w0 : World} {pa pb px py : Nat} {a A b B x y : Int} (h : Hid (HSt w0 pa pb px py a A b B x y ∧ Below w.heap.size w w0)) : Hid (HSt w0.drew pa pb px py a A b B x y ∧ Below w.heap.size w w0.drew) := hst_step h (below_dr (Below.refl _ _))
theorem keepR0 {w w0 : World} {pa pb px py : Nat} {a A b B x y u v : Int} {i j : Nat} (hi : i < 3) (hj : j < 3) (HU : Hid (u = three a A x i)) (HV : Hid (v = three b B y j)) (h : Hid (HSt w0 pa pb px py a A b B x y ∧ Below w.heap.size w w0)) :
    w0.drew.cell? ⟨px, i, none⟩ = some (.int .u64 u) ∧ w0.drew.cell? ⟨py, j, none⟩ = some (.int .u64 v) ∧ Hid (HSt w0.drew pa pb px py a A b B x y ∧ Below w.heap.size w w0.drew) :=
  have t := hst_dr h
  ⟨by rw [HU.out]; exact t.out.1.2.2.1 i hi, by rw [HV.out]; exact t.out.1.2.2.2 j hj, t⟩
theorem keepS {w w0 w1 : World} {pa pb px py bs : Nat} {a A b B x y u s S : Int} {i : Nat} (h : w0.cell? ⟨bs, 0, none⟩ = some (.int .u64 s) ∧ w0.cell? ⟨bs, 1, none⟩ = some (.int .u64 S) ∧ w0.cell? ⟨px, i, none⟩ = some (.int .u64 u) ∧ w0.cell? ⟨pa, 0, none⟩ = some (.int .u64 a) ∧ w0.cell? ⟨pa, 1, none⟩ = some (.int .u64 A) ∧ Hid (HSt w0 pa pb px py a A b B x y ∧ Below w.heap.size w w0)) (hb : Below w0.heap.size w0 w1) :
    w1.cell? ⟨bs, 0, none⟩ = some (.int .u64 s) ∧ w1.cell? ⟨bs, 1, none⟩ = some (.int .u64 S) ∧ w1.cell? ⟨px, i, none⟩ = some (.int .u64 u) ∧ w1.cell? ⟨pa, 0, none⟩ = some (.int .u64 a) ∧ w1.cell? ⟨pa, 1, none⟩ = some (.int .u64 A) ∧ Hid (HSt w1 pa pb px py a A b B x y ∧ Below w.heap.size w w1) :=
  ⟨cell_next h.1 hb, cell_next h.2.1 hb, cell_next h.2.2.1 hb, cell_next h.2.2.2.1 hb, cell_next h.2.2.2.2.1 hb, hst_step h.2.2.2.2.2 hb⟩
theorem keepS0 {w w0 : World} {pa pb px py : Nat} {a A b B x y u s S : Int} {i : Nat} (hi : i < 3) (HU : Hid (u = three a A x i)) (h : Hid (HSt w0 pa pb px py a A b B x y ∧ Below w.heap.size w w0)) :
    (w0.alloc (spO s S)).drew.cell? ⟨w0.heap.size, 0, none⟩ = some (.int .u64 s) ∧ (w0.alloc (spO s S)).drew.cell? ⟨w0.heap.size, 1, none⟩ = some (.int .u64 S) ∧ (w0.alloc (spO s S)).drew.cell? ⟨px, i, none⟩ = some (.int .u64 u) ∧ (w0.alloc (spO s S)).drew.cell? ⟨pa, 0, none⟩ = some (.int .u64 a) ∧ (w0.alloc (spO s S)).drew.cell? ⟨pa, 1, none⟩ = some (.int .u64 A) ∧ Hid (HSt (w0.alloc (spO s S)).drew pa pb px py a A b B x y ∧ Below w.heap.size w (w0.alloc (spO s S)).drew) :=
  have t := hst_dr (hst_al h (spO s S))
  have q := bx_new w0 s S
  ⟨q.1.1, q.1.2, by rw [HU.out]; exact t.out.1.2.2.1 i hi, t.out.1.1.1, t.out.1.1.2, t⟩
/-- The same, beside it the boxes of the join and the meet. -/
def Fin (wr : World) (pa pb px py pj pm : Nat) (a A b B x y l L p q : Int) : Prop := HSt wr pa pb px py a A b B x y ∧ (wr.cell? ⟨pj, 0, none⟩ = some (.int .u64 l) ∧ wr.cell? ⟨pj, 1, none⟩ = some (.int .u64 L)) ∧ wr.cell? ⟨pm, 0, none⟩ = some (.int .u64 p) ∧ wr.cell? ⟨pm, 1, none⟩ = some (.int .u64 q)
theorem fin_step {w w0 w1 : World} {pa pb px py pj pm : Nat} {a A b B x y l L p q : Int} (h : Hid (Fin w0 pa pb px py pj pm a A b B x y l L p q ∧ Below w.heap.size w w0)) (hb : Below w0.heap.size w0 w1) : Hid (Fin w1 pa pb px py pj pm a A b B x y l L p q ∧ Below w.heap.size w w1) :=
  ⟨⟨h.out.1.1.next hb, ⟨cell_next h.out.1.2.1.1 hb, cell_next h.out.1.2.1.2 hb⟩, cell_next h.out.1.2.2.1 hb, cell_next h.out.1.2.2.2 hb⟩, h.out.2.trans (hb.mono h.out.2.size)⟩
/-- The join's box, ahead of the meet's. -/
def Fij (wr : World) (pa pb px py pj : Nat) (a A b B x y l L p q : Int) : Prop := HSt wr pa pb px py a A b B x y ∧ (wr.cell? ⟨pj, 0, none⟩ = some (.int .u64 l) ∧ wr.cell? ⟨pj, 1, none⟩ = some (.int .u64 L)) ∧ p = p ∧ q = q
theorem fin_new {w w6 w7 : World} {o : Obj} {pa pb px py : Nat} {a A b B x y l L : Int} (h : Hid (HSt (w6.alloc (spO l L)) pa pb px py a A b B x y ∧ Below w.heap.size w (w6.alloc (spO l L)))) (hx : Bx (w6.alloc (spO l L)) w6.heap.size l L) (p q : Int) (hb : Below ((w6.alloc (spO l L)).alloc o).heap.size ((w6.alloc (spO l L)).alloc o) w7) :
    Hid (Fij w7 pa pb px py w6.heap.size a A b B x y l L p q ∧ Below w.heap.size w w7) :=
  have t := hst_step (hst_al h o) hb
  have hx' := hx.1
  ⟨⟨t.out.1, ⟨cell_next (cell_next hx'.1 (below_al _ o)) hb, cell_next (cell_next hx'.2 (below_al _ o)) hb⟩, rfl, rfl⟩, t.out.2⟩
theorem fin_box {w w7 : World} {pa pb px py pj : Nat} {a A b B x y l L p q : Int} (h : Hid (Fij w7 pa pb px py pj a A b B x y l L p q ∧ Below w.heap.size w w7)) : Hid (Fin (w7.alloc (spO p q)) pa pb px py pj w7.heap.size a A b B x y l L p q ∧ Below w.heap.size w (w7.alloc (spO p q))) :=
  have hb := below_al w7 (spO p q)
  have q := bx_new w7 p q
  ⟨⟨h.out.1.1.next hb, ⟨cell_next h.out.1.2.1.1 hb, cell_next h.out.1.2.1.2 hb⟩, q.1.1, q.1.2⟩, h.out.2.trans (hb.mono h.out.2.size)⟩
set_option maxHeartbeats 8000000 in
theorem holds_yes (a A b B x y : Int) (w : World) (ha : W64 a) (hA : W64 A) (hb : W64 b) (hB : W64 B) (hx : W64 x) (hy : W64 y) (h1 : a ≤ A) (h2 : b ≤ B) :
    Calls Try.prog 7 #[.agg #[.int .u64 a, .int .u64 A, .int .u64 b, .int .u64 B, .int .u64 x, .int .u64 y]] w fun e w' => e = .returned (.bool true) ∧ Below w.heap.size w w' := by
  have HW : Hid (W64 a ∧ W64 A ∧ W64 b ∧ W64 B ∧ a ≤ A ∧ b ≤ B) := ⟨ha, hA, hb, hB, h1, h2⟩
  obtain ⟨X, HX, HXi⟩ : ∃ X, Hid (X = insideL a A x) ∧ Hid (a ≤ X ∧ X ≤ A) := ⟨_, rfl, inside_in ⟨ha.1, h1, hA.2⟩ hx⟩
  obtain ⟨Y, HY, HYi⟩ : ∃ Y, Hid (Y = insideL b B y) ∧ Hid (b ≤ Y ∧ Y ≤ B) := ⟨_, rfl, inside_in ⟨hb.1, h2, hB.2⟩ hy⟩
  have HI1 : Hid (∀ w, Calls Try.prog 26 #[.agg #[.int .u64 a, .int .u64 A], .int .u64 x] w fun e w' => e = .returned (.int .u64 X) ∧ Below w.heap.size w w') := fun w => by rw [HX.out]; exact inside_any a A x w ⟨ha.1, h1, hA.2⟩ hx
  have HI2 : Hid (∀ w, Calls Try.prog 26 #[.agg #[.int .u64 b, .int .u64 B], .int .u64 y] w fun e w' => e = .returned (.int .u64 Y) ∧ Below w.heap.size w w') := fun w => by rw [HY.out]; exact inside_any b B y w ⟨hb.1, h2, hB.2⟩ hy
  have HD : Hid (∀ op s S : Int, doR op a A b B = some (s, S) → ∀ w, Calls Try.prog 22 #[.int .i64 op, .agg #[.int .u64 a, .int .u64 A], .agg #[.int .u64 b, .int .u64 B]] w fun e w' => e = .returned (.tuple #[.agg #[.int .u64 s, .int .u64 S], .bool true]) ∧ Below w.heap.size w w') := fun op s S he w => by
    have h := ldo_any op a A b B w ha hA hb hB
    rw [he] at h
    exact h
  have HF : Hid (∀ (op s S : Int) (g : Bool), refineR op a A b B g = some (s, S) → ∀ w, Calls Try.prog 24 #[.int .i64 op, .agg #[.int .u64 a, .int .u64 A], .agg #[.int .u64 b, .int .u64 B], .bool g] w fun e w' => e = .returned (.tuple #[.agg #[.int .u64 s, .int .u64 S], .bool true]) ∧ Below w.heap.size w w') := fun op s S g he w => by
    have h := lrefine_any op a A b B g w ha hA hb hB
    rw [he] at h
    exact h
  have H1 : Hid (true = decide (a ≤ A)) := (decide_eq_true h1).symm
  have H2 : Hid (true = decide (b ≤ B)) := (decide_eq_true h2).symm
  clear ha hA hb hB hx hy h1 h2 HX HY
  go_enter Try.func7, Try.ntmps7
  go_wp2_with (first
    | (go_at_call 9; go_must (refine (awake6 _).mono ?_); rintro e w0 ⟨rfl, hb0⟩; go_must (have q0 : w0.cell? ⟨w.heap.size, 0, none⟩ = some (.int .u64 a) := cell_next (by go_cell) hb0; have q1 : w0.cell? ⟨w.heap.size, 1, none⟩ = some (.int .u64 A) := cell_next (by go_cell) hb0; have q2 : w0.cell? ⟨w.heap.size, 2, none⟩ = some (.int .u64 b) := cell_next (by go_cell) hb0; have q3 : w0.cell? ⟨w.heap.size, 3, none⟩ = some (.int .u64 B) := cell_next (by go_cell) hb0; have q4 : w0.cell? ⟨w.heap.size, 4, none⟩ = some (.int .u64 x) := cell_next (by go_cell) hb0; have q5 : w0.cell? ⟨w.heap.size, 5, none⟩ = some (.int .u64 y) := cell_next (by go_cell) hb0; have z0 := cell_lt q0; have hbe : Below w.heap.size w w0 := boxS_below hb0; clear hb0))
    | (go_at_call 10; fail))
  go_cut [3, 4] from 26 (fun s3 s4 wx => ∃ pa pb : Nat, s3 = .pointer (some ⟨pa, 0, none⟩) ∧ s4 = .pointer (some ⟨pb, 0, none⟩) ∧ Two wx w.heap.size pa pb a A b B x y ∧ Below w.heap.size w wx)
  case first =>
    have HT : Hid _ := two_new w0 w.heap.size a A b B x y q4 q5
    go_region
    all_goals (go_wp2_with fail; go_meet; refine ⟨_, _, rfl, rfl, ?_, ?_⟩)
    · exact HT.out.1
    · exact below_dr ((hbe.alloc hbe.size _).alloc (by have := hbe.size; simp; omega) _)
    · exact HT.out.2
    · exact below_dr ((hbe.alloc hbe.size _).alloc (by have := hbe.size; simp; omega) _)
  case rest =>
    clear q0 q1 q2 q3 q4 q5 z0 hbe
    obtain ⟨pa, pb, rfl, rfl, hT, hbe⟩ := hcut
    obtain ⟨⟨c0, c1⟩, ⟨d0, d1⟩, -, -⟩ := id hT
    have z1 := cell_lt c0
    have z2 := cell_lt d0
    have HT : Hid (Two wc w.heap.size pa pb a A b B x y) := hT
    clear hT
    have P1 : Hid True := trivial
    go_wp2_with (first
      | (go_at_call 10; have hq := P1; clear hq P1; go_must (refine (lright_as H1 _).mono ?_); rintro e w1 ⟨rfl, hb1⟩; go_must (have HT1 : Hid (Two w1 w.heap.size pa pb a A b B x y) := HT.out.next hb1; have hbe1 : Below w.heap.size w w1 := hbe.trans (hb1.mono hbe.size); obtain ⟨⟨c0', c1'⟩, ⟨d0', d1'⟩, -, -⟩ := HT1.out; clear hb1 hbe HT c0 c1 d0 d1))
      | (go_at_call 10; go_must (refine (lright_as H2 _).mono ?_); rintro e w2 ⟨rfl, hb2⟩; go_must (have hS : w2.drew.cell? ⟨pa, 0, none⟩ = some (.int .u64 a) ∧ w2.drew.cell? ⟨pa, 1, none⟩ = some (.int .u64 A) ∧ w2.drew.cell? ⟨w.heap.size, 4, none⟩ = some (.int .u64 x) ∧ Hid (Two w2.drew w.heap.size pa pb a A b B x y ∧ Below w.heap.size w w2.drew) := keepP0 (HT1.out.next hb2) (hbe1.trans (hb2.mono hbe1.size)); clear hb2 hbe1 HT1 c0' c1' d0' d1' z1 z2))
      | (go_at_call 26; fail))
    go_region_held_law (fun w' => w'.cell? ⟨pa, 0, none⟩ = some (.int .u64 a) ∧ w'.cell? ⟨pa, 1, none⟩ = some (.int .u64 A) ∧ w'.cell? ⟨w.heap.size, 4, none⟩ = some (.int .u64 x) ∧ Hid (Two w' w.heap.size pa pb a A b B x y ∧ Below w.heap.size w w'))
      (first | assumption | exact keepP hS (below_al _ _) | fail)
      ((go_at_call 26; refine (HI1.out _).mono ?_; rintro e w3 ⟨rfl, hb3⟩; replace hS := keepP hS hb3; clear hb3))
    have hQ := keepQ0 22 X hS
    clear hS
    go_wp2_with (first | (go_at_call 26; fail))
    go_region_held_law (fun w' => w'.cell? ⟨pb, 0, none⟩ = some (.int .u64 b) ∧ w'.cell? ⟨pb, 1, none⟩ = some (.int .u64 B) ∧ w'.cell? ⟨w.heap.size, 5, none⟩ = some (.int .u64 y) ∧ Hid (Two w' w.heap.size pa pb a A b B x y ∧ Three w' w3.heap.size a A X ∧ Below w.heap.size w w'))
      (first | assumption | exact keepQ hQ (below_al _ _) | fail)
      ((go_at_call 26; refine (HI2.out _).mono ?_; rintro e w5 ⟨rfl, hb5⟩; replace hQ := keepQ hQ hb5; clear hb5))
    have hH := hst_new 22 Y hQ
    clear hQ
    rename_i hq0
    clear hq0
    generalize w3.heap.size = px at hH ⊢
    go_wp2_with (first | (go_at_call 27; fail))
    generalize w5.heap.size = py at hH ⊢
    go_loopw [9] (fun i wr => ∃ k : Nat, k ≤ 3 ∧ i = .int .i64 k ∧ Hid (HSt wr pa pb px py a A b B X Y ∧ Below w.heap.size w wr)) (fun i _ => 3 - (intOf i).toNat)
    case atStart => exact ⟨0, by omega, rfl, hH⟩
    case round =>
      clear hH
      obtain ⟨i, hi, rfl, hH⟩ := hrel
      by_cases hi3 : i < 3
      · obtain ⟨u, HU, HUi⟩ : ∃ u, Hid (u = three a A X i) ∧ Hid (a ≤ u ∧ u ≤ A) := ⟨_, rfl, three_in HXi.out i⟩
        have HUw : Hid (0 ≤ u ∧ u ≤ 18446744073709551615) := ⟨by have h1 := HUi.out; have h2 := HW.out.1.1; omega, by have h1 := HUi.out; have h2 := HW.out.2.1.2; omega⟩
        go_wp2
        go_loopw [10] (fun j wr => ∃ k : Nat, k ≤ 3 ∧ j = .int .i64 k ∧ Hid (HSt wr pa pb px py a A b B X Y ∧ Below w.heap.size w wr)) (fun j _ => 3 - (intOf j).toNat)
        case atStart => exact ⟨0, by omega, rfl, hH⟩
        case round =>
          clear hH
          obtain ⟨j, hj, rfl, hH⟩ := hrel
          by_cases hj3 : j < 3
          · obtain ⟨v, HV, HVi⟩ : ∃ v, Hid (v = three b B Y j) ∧ Hid (b ≤ v ∧ v ≤ B) := ⟨_, rfl, three_in HYi.out j⟩
            have HVw : Hid (0 ≤ v ∧ v ≤ 18446744073709551615) := ⟨by have h1 := HVi.out; have h2 := HW.out.2.2.1.1; omega, by have h1 := HVi.out; have h2 := HW.out.2.2.2.1.2; omega⟩
            go_wp2
            go_loopw [11] (fun o wr => ∃ k : Nat, 1 ≤ k ∧ k ≤ 11 ∧ o = .int .i64 k ∧ Hid (HSt wr pa pb px py a A b B X Y ∧ Below w.heap.size w wr)) (fun o _ => 11 - (intOf o).toNat)
            case atStart => exact ⟨1, by omega, by omega, rfl, hH⟩
            case round =>
              clear hH
              obtain ⟨o, ho1, ho2, rfl, hH⟩ := hrel
              by_cases ho : o < 11
              · obtain ⟨s, S, n, E1, E2, E3, E4⟩ := hold_do (op := o) ⟨by omega, by omega⟩ HW.out.1 HW.out.2.1 HW.out.2.2.1 HW.out.2.2.2.1 HUi.out HVi.out
                obtain ⟨c, E5⟩ : ∃ c, Hid (c = isOp o) := ⟨_, rfl⟩
                have KD : Hid (∀ w, Calls Try.prog 22 #[.int .i64 o, .agg #[.int .u64 a, .int .u64 A], .agg #[.int .u64 b, .int .u64 B]] w fun e w' => e = .returned (.tuple #[.agg #[.int .u64 s, .int .u64 S], .bool true]) ∧ Below w.heap.size w w') := HD.out o s S E1.out
                have hS := keepR0 hi3 hj3 HU HV hH
                go_wp2
                go_region_held_law (fun w' => w'.cell? ⟨px, i, none⟩ = some (.int .u64 u) ∧ w'.cell? ⟨py, j, none⟩ = some (.int .u64 v) ∧ Hid (HSt w' pa pb px py a A b B X Y ∧ Below w.heap.size w w'))
                  (first | assumption | fail)
                  ((go_at_call 27; refine (do_as E4 E5 _ HUw.out HVw.out).mono ?_; rintro e w6 ⟨rfl, rfl⟩))
                have hH6 := hS.2.2
                obtain ⟨⟨c0, c1⟩, ⟨d0, d1⟩, -, -⟩ := hH.out.1
                clear hS
                go_wp2_with (first
                  | (go_at_call 22; go_must (refine (KD.out _).mono ?_); rintro e w7 ⟨rfl, hb7⟩; go_must (have hH7 := hst_step hH6 hb7; clear hb7 hH6))
                  | (go_at_call 10; go_must (refine (lright_as E2 _).mono ?_); rintro e w8 ⟨rfl, hb8⟩; go_must (have hH8 := hst_step (hst_al hH7 (spO s S)) hb8; have q := box_next hb8; obtain ⟨⟨⟨e0, e1⟩, _, _⟩, z5⟩ := q; clear hb8 hH7))
                  | (go_at_call 14; go_must (refine (lhas_as E3 _).mono ?_); rintro e w9 ⟨rfl, hb9⟩; go_must (have hH9 := hst_step hH8 hb9; clear hb9 hH8)))
                go_roundw
                case rel =>
                  first
                    | exact ⟨o + 1, by omega, by omega, by go_num, hH9⟩
                    | (simp; exact ⟨_, _, ⟨o + 1, by omega, by omega, rfl, hH9⟩, rfl, by go_num, by omega, by omega⟩)
                    | (simp; exact ⟨_, _, ⟨o + 1, by omega, by omega, rfl, hH9⟩, rfl, by go_num, by omega⟩)
                    | (simp; exact ⟨_, _, ⟨o + 1, by omega, by omega, rfl, hH9⟩, rfl, by go_num⟩)
                    | (simp; exact ⟨_, ⟨o + 1, by omega, by omega, rfl, hH9⟩, by go_num, by omega, by omega⟩)
                    | (simp; exact ⟨_, ⟨o + 1, by omega, by omega, rfl, hH9⟩, by go_num, by omega⟩)
                case measure => simp [intOf]; omega
              · have hH' := hH
                go_wp2
                go_loopw [16] (fun o wr => ∃ k : Nat, 16 ≤ k ∧ k ≤ 20 ∧ o = .int .i64 k ∧ Hid (HSt wr pa pb px py a A b B X Y ∧ Below w.heap.size w wr)) (fun o _ => 20 - (intOf o).toNat)
                case atStart => exact ⟨16, by omega, by omega, rfl, hH'⟩
                case round =>
                  clear hH hH'
                  clear ho1 ho2 ho
                  obtain ⟨o, ho1, ho2, rfl, hH⟩ := hrel
                  by_cases ho : o < 20
                  · obtain ⟨s, S, g, E1, E2, E3, E4⟩ := hold_ref (op := o) ⟨by omega, by omega⟩ HUi.out HVi.out
                    obtain ⟨c, E5⟩ : ∃ c, Hid (c = isCond o) := ⟨_, rfl⟩
                    have KF : Hid (∀ w, Calls Try.prog 24 #[.int .i64 o, .agg #[.int .u64 a, .int .u64 A], .agg #[.int .u64 b, .int .u64 B], .bool g] w fun e w' => e = .returned (.tuple #[.agg #[.int .u64 s, .int .u64 S], .bool true]) ∧ Below w.heap.size w w') := HF.out o s S g E1.out
                    have hS := keepR0 hi3 hj3 HU HV hH
                    go_wp2
                    go_region_held_law (fun w' => w'.cell? ⟨px, i, none⟩ = some (.int .u64 u) ∧ w'.cell? ⟨py, j, none⟩ = some (.int .u64 v) ∧ Hid (HSt w' pa pb px py a A b B X Y ∧ Below w.heap.size w w'))
                      (first | assumption | fail)
                      ((go_at_call 28; refine (holds_as E4 E5 _ HUw.out HVw.out).mono ?_; rintro e w6 ⟨rfl, rfl⟩))
                    have hH6 := hS.2.2
                    obtain ⟨⟨c0, c1⟩, ⟨d0, d1⟩, -, -⟩ := hH.out.1
                    clear hS
                    go_wp2_with (first
                      | (go_at_call 24; go_must (refine (KF.out _).mono ?_); rintro e w7 ⟨rfl, hb7⟩; go_must (have hH7 := hst_step hH6 hb7; clear hb7 hH6))
                      | (go_at_call 14; fail))
                    have hT := keepS0 (s := s) (S := S) hi3 HU hH7
                    clear hH7
                    go_region_held_law (fun w' => w'.cell? ⟨w7.heap.size, 0, none⟩ = some (.int .u64 s) ∧ w'.cell? ⟨w7.heap.size, 1, none⟩ = some (.int .u64 S) ∧ w'.cell? ⟨px, i, none⟩ = some (.int .u64 u) ∧ w'.cell? ⟨pa, 0, none⟩ = some (.int .u64 a) ∧ w'.cell? ⟨pa, 1, none⟩ = some (.int .u64 A) ∧ Hid (HSt w' pa pb px py a A b B X Y ∧ Below w.heap.size w w'))
                      (first | assumption | fail)
                      ((first
                        | (go_at_call 14; refine (lhas_as E2 _).mono ?_; rintro e w8 ⟨rfl, hb8⟩; replace hT := keepS hT hb8; clear hb8)
                        | (go_at_call 16; refine (lwithin_as E3 _).mono ?_; rintro e w9 ⟨rfl, hb9⟩; replace hT := keepS hT hb9; clear hb9)))
                    have hH9 := hT.2.2.2.2.2
                    clear hT
                    go_wp2
                    go_roundw
                    case rel =>
                      first
                        | exact ⟨o + 1, by omega, by omega, by go_num, hH9⟩
                        | (simp; exact ⟨_, _, ⟨o + 1, by omega, by omega, rfl, hH9⟩, rfl, by go_num, by omega, by omega⟩)
                        | (simp; exact ⟨_, _, ⟨o + 1, by omega, by omega, rfl, hH9⟩, rfl, by go_num, by omega⟩)
                        | (simp; exact ⟨_, _, ⟨o + 1, by omega, by omega, rfl, hH9⟩, rfl, by go_num⟩)
                        | (simp; exact ⟨_, ⟨o + 1, by omega, by omega, rfl, hH9⟩, by go_num, by omega, by omega⟩)
                        | (simp; exact ⟨_, ⟨o + 1, by omega, by omega, rfl, hH9⟩, by go_num, by omega⟩)
                    case measure => simp [intOf]; omega
                  · go_wp2
                    go_roundw
                    case rel =>
                      first
                        | exact ⟨j + 1, by omega, by go_num, hH⟩
                        | (simp; exact ⟨_, _, ⟨j + 1, by omega, rfl, hH⟩, rfl, by go_num, by omega, by omega⟩)
                        | (simp; exact ⟨_, _, ⟨j + 1, by omega, rfl, hH⟩, rfl, by go_num, by omega⟩)
                        | (simp; exact ⟨_, _, ⟨j + 1, by omega, rfl, hH⟩, rfl, by go_num⟩)
                        | (simp; exact ⟨_, ⟨j + 1, by omega, rfl, hH⟩, by go_num, by omega, by omega⟩)
                        | (simp; exact ⟨_, ⟨j + 1, by omega, rfl, hH⟩, by go_num, by omega⟩)
                    case measure => simp [intOf]; omega
          · go_wp2
            go_roundw
            case rel =>
              first
                | exact ⟨i + 1, by omega, by go_num, hH⟩
                | (simp; exact ⟨_, _, ⟨i + 1, by omega, rfl, hH⟩, rfl, by go_num, by omega, by omega⟩)
                | (simp; exact ⟨_, _, ⟨i + 1, by omega, rfl, hH⟩, rfl, by go_num, by omega⟩)
                | (simp; exact ⟨_, _, ⟨i + 1, by omega, rfl, hH⟩, rfl, by go_num⟩)
                | (simp; exact ⟨_, ⟨i + 1, by omega, rfl, hH⟩, by go_num, by omega, by omega⟩)
                | (simp; exact ⟨_, ⟨i + 1, by omega, rfl, hH⟩, by go_num, by omega⟩)
            case measure => simp [intOf]; omega
      · as_aux_lemma =>
          obtain ⟨l, L, HL, Wa, Wb, El, EL⟩ : ∃ l L, Hid (l = min a b ∧ L = max A B) ∧ Hid (true = withinB a A l L) ∧ Hid (true = withinB b B l L) ∧ Hid (l = a ∨ (l ≠ a ∧ l = b)) ∧ Hid (L = A ∨ (L ≠ A ∧ L = B)) := by
            have h := HW.out.2.2.2.2
            exact ⟨min a b, max A B, ⟨rfl, rfl⟩, hold_within h.1 (by omega) (by omega), hold_within h.2 (by omega) (by omega), (by show _ ∨ _; omega), (by show _ ∨ _; omega)⟩
          obtain ⟨p, q, c, M1, M2⟩ := hold_meet a A b B HW.out.2.2.2.2.1 HW.out.2.2.2.2.2
          obtain ⟨r, R1⟩ : ∃ r, Hid (r = hasB b B X) := ⟨_, rfl⟩
          obtain ⟨r', R2⟩ : ∃ r, Hid (r = hasB p q X) := ⟨_, rfl⟩
          have R3 : Hid (true = hasB a A X) := hold_has HXi.out
          have RE : Hid (r = (c && r')) := by show _ = _; rw [R1.out, R2.out]; exact M2.out X HXi.out.1 HXi.out.2
          have KJ : Hid (∀ v w, SeesS w v [(a, A), (b, B)] → Calls Try.prog 18 #[v] w fun e w' => e = .returned (.tuple #[.agg #[.int .u64 l, .int .u64 L], .bool true]) ∧ Below w.heap.size w w') := fun v w hs => hold_join HL w hs HW.out.2.2.2.2.1 HW.out.2.2.2.2.2 HW.out.1 HW.out.2.1 HW.out.2.2.1 HW.out.2.2.2.1
          have KM : Hid (∀ v w, SeesS w v [(a, A), (b, B)] → Calls Try.prog 20 #[v] w fun e w' => e = .returned (.tuple #[.agg #[.int .u64 p, .int .u64 q], .bool c]) ∧ Below w.heap.size w w') := fun v w hs => two_meet M1 v w hs HW.out.1 HW.out.2.1 HW.out.2.2.1 HW.out.2.2.2.1
          obtain ⟨⟨c0, c1⟩, ⟨d0, d1⟩, -, -⟩ := hH.out.1
          clear HI1 HI2 HD HF M1 M2 HL HXi HYi
          go_wp2_with (first
            | (go_at_call 18; go_must (refine (KJ.out _ _ (sees_two wr _ a A b B _ (by simp))).mono ?_); rintro e w6 ⟨rfl, hb6⟩; go_must (have hH6 := hst_step (hst_al hH _) hb6; clear hb6 hH c0 c1 d0 d1; obtain ⟨⟨c0, c1⟩, ⟨d0, d1⟩, -, -⟩ := hH6.out.1; have z1 := cell_lt c0; have z2 := cell_lt d0))
            | (go_at_call 20; go_must (refine (KM.out _ _ (sees_two (w6.alloc (spO l L)) _ a A b B _ (by simp))).mono ?_); rintro e w7 ⟨rfl, hb7⟩; go_must (have hH7 := fin_new (hst_al hH6 (spO l L)) (bx_new w6 l L) p q hb7; clear hb7 hH6 c0 c1 d0 d1 z1 z2; obtain ⟨⟨⟨c0, c1⟩, ⟨d0, d1⟩, h3, -⟩, ⟨j0, j1⟩, -⟩ := hH7.out.1; have x2 : w7.cell? ⟨px, 2, none⟩ = some (.int .u64 X) := h3 2 (by omega); clear h3; have z1 := cell_lt c0; have z2 := cell_lt d0; have z3 := cell_lt x2; have z4 := cell_lt j0))
            | (go_at_call 16; fail))
          generalize w6.heap.size = pj at hH7 j0 j1 z4 ⊢
          have P1 : Hid True := trivial
          have P2 : Hid True := trivial
          have P3 : Hid True := trivial
          have RC : Hid ((c = false ∧ r = false) ∨ (c = true ∧ r' = true ∧ r = true) ∨ (c = true ∧ r' = false ∧ r = false)) := by
            have h := RE.out
            show _ ∨ _
            cases c <;> cases r' <;> simp at h <;> simp [h]
          rcases El.out with rfl | ⟨hl, rfl⟩ <;> rcases EL.out with rfl | ⟨hL, rfl⟩ <;> rcases RC.out with ⟨rfl, rfl⟩ | ⟨rfl, rfl, rfl⟩ | ⟨rfl, rfl, rfl⟩
          all_goals go_wp2_with (first
              | (go_at_call 16; have hq := P1; clear hq P1; go_must (refine (lwithin_as Wa _).mono ?_); rintro e w8 ⟨rfl, hb8⟩; go_must (have hH8 := fin_step (fin_box hH7) hb8; clear hb8 hH7 c0 c1 d0 d1 j0 j1 x2 z1 z2 z3 z4; obtain ⟨⟨⟨c0, c1⟩, ⟨d0, d1⟩, -, -⟩, ⟨j0, j1⟩, m0, m1⟩ := hH8.out.1))
              | (go_at_call 16; go_must (refine (lwithin_as Wb _).mono ?_); rintro e w9 ⟨rfl, hb9⟩; go_must (have hH9 := fin_step hH8 hb9; clear hb9 hH8 c0 c1 d0 d1 j0 j1 m0 m1; obtain ⟨⟨⟨c0, c1⟩, ⟨d0, d1⟩, -, -⟩, ⟨j0, j1⟩, m0, m1⟩ := hH9.out.1))
              | (go_at_call 14; have hq := P2; clear hq P2; go_must (refine (lhas_as R3 _).mono ?_); rintro e w10 ⟨rfl, hb10⟩; go_must (have hH10 := fin_step hH9 hb10; clear hb10 hH9 c0 c1 d0 d1 j0 j1 m0 m1; obtain ⟨⟨⟨c0, c1⟩, ⟨d0, d1⟩, -, -⟩, ⟨j0, j1⟩, m0, m1⟩ := hH10.out.1))
              | (go_at_call 14; have hq := P3; clear hq P3; go_must (refine (lhas_as R1 _).mono ?_); rintro e w11 ⟨rfl, hb11⟩; go_must (have hH11 := fin_step hH10 hb11; clear hb11 hH10 c0 c1 d0 d1 j0 j1 m0 m1; obtain ⟨⟨⟨c0, c1⟩, ⟨d0, d1⟩, -, -⟩, ⟨j0, j1⟩, m0, m1⟩ := hH11.out.1; have hB : Below w.heap.size w w11 := hH11.out.2))
              | (go_at_call 14; go_must (refine (lhas_as R2 _).mono ?_); rintro e w12 ⟨rfl, hb12⟩; go_must (have hH12 := fin_step hH11 hb12; clear hb12 hH11 c0 c1 d0 d1 j0 j1 m0 m1; replace hB : Below w.heap.size w w12 := hH12.out.2)))
          all_goals go_ret
          all_goals exact ⟨rfl, hB⟩
end Go.Proofs.Ytammakfpmimljaa
