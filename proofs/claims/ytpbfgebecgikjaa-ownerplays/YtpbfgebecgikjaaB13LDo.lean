
/-
  The landed book's Do. Condition: the book lies where the pointer says, its row is the call's own; at most 16 pairs.
-/
import Derived.Test.YtpbfgebecgikjaaB13LDrop
import Derived.Test.YtpbfgebecgikjaaB13RDo
namespace Go.Proofs.Ytpbfgebecgikjaa
open Go.RowKit
set_option linter.unusedVariables false
set_option linter.unusedSimpArgs false
set_option maxRecDepth 100000

section
variable {w : World} {B b cap : Nat} {v : Value} {L : List Pp}
/-- The book behind an operation. -/
def LbNext (w : World) (B b cap : Nat) (v : Value) (L' : List Pp) (w' : World) : Prop := ∃ v', Lb w' B b cap v' L' ∧ Chg w w' (bkS b v) ∧ RowNew w v v'
theorem LbNext.same {w' : World} (h : Lb w B b cap v L) (hb : Below w.heap.size w w') : LbNext w B b cap v L w' := ⟨v, h.below hb, Chg.of_below hb, .inl rfl⟩
theorem LbNext.first {w1 w' : World} {L' : List Pp} (h : LbNext w1 B b cap v L' w') (hb : Below w.heap.size w w1) : LbNext w B b cap v L' w' := by
  obtain ⟨v', h1, h2, h3⟩ := h
  refine ⟨v', h1, (Chg.of_below (S := bkS b v) hb).trans h2 (fun _ _ e => e), ?_⟩
  rcases h3 with g | ⟨k, g1, g2⟩
  · exact .inl g
  · exact .inr ⟨k, g1, Nat.le_trans hb.size g2⟩
theorem LbNext.box {w1 w3 : World} {L' : List Pp} {n : Nat} {t : TypeId} {cs : List Value} (hn : LbNext w1 B b cap v L' w3) (h : Hp w1 n t cs) (hb : b ≠ n) (hv : v.ownBlock ≠ some n) : Hp w3 n t cs := by
  obtain ⟨v', h1, h2, h3⟩ := hn
  exact h.chg h2 (fun e => by rcases e with e | e; exact hb e.symm; exact hv e)
/-- The end of Do. -/
theorem ldo_end {X w1 w3 : World} {L' : List Pp} {E val : Int} {f : Bool} {fn : Func} {tmps : Array Value} {pt : Tmp} (Hr : Hp w3 w.heap.size 47 (resCG 0 false 0 false 0 0)) (hn : LbNext w1 B b cap v L' w3) (hbX : Below w.heap.size w X) (hb1 : Below X.heap.size X w1) (hzX : X.heap.size = w.heap.size + 1) (hblt : b < w.heap.size) (hgw : ∀ k, v.ownBlock = some k → B ≤ k ∧ k < w.heap.size) (hr : fn.results = #[.cell pt 47] := by rfl) (hp : tmps.getD pt undef = .pointer (some ⟨w.heap.size, 0, none⟩) := by rfl) :
    bodyPost Try.prog fn (fun e w' => e = .returned (resG E f val false 0 0) ∧ LbNext w B b cap v L' w') .ret ⟨tmps, []⟩ ((((((w3.setCell ⟨w.heap.size, 0, none⟩ (.int .i64 E)).setCell ⟨w.heap.size, 1, none⟩ (.bool f)).setCell ⟨w.heap.size, 2, none⟩ (.int .u64 val)).setCell ⟨w.heap.size, 3, none⟩ (.bool false)).setCell ⟨w.heap.size, 4, none⟩ (.int .u64 0)).setCell ⟨w.heap.size, 5, none⟩ (.int .u64 0)) := by
  have hg6 := (six_sets (E := E) (f := f) (v := val) (o := false) (k := 0) (u := 0) Hr rfl).2
  have hc6 := Chg.of_grown (S := fun k => k = w.heap.size) hg6 rfl
  have hz1 := hb1.size
  obtain ⟨v', h1, h2, h3⟩ := hn
  refine res_ret hr hp (six_sets Hr rfl).1 ⟨rfl, v', h1.chg hc6 (fun e => by omega) (fun k hk e => ?_), ?_, ?_⟩
  · rcases h3 with g | ⟨j, g1, g2⟩
    · rw [g] at hk
      have := (hgw k hk).2
      omega
    · rw [g1] at hk
      have := Option.some.inj hk
      omega
  · have hA : Chg w X (bkS b v) := Chg.of_below hbX
    have hB : Chg w w1 (bkS b v) := hA.trans (Chg.of_below (S := fun _ => False) hb1) (fun _ _ e => e.elim)
    exact (hB.trans h2 (fun k _ e => e)).trans hc6 (fun k hk e => by omega)
  · rcases h3 with g | ⟨j, g1, g2⟩
    · exact .inl g
    · exact .inr ⟨j, g1, by omega⟩
/-- set, whatever comes. -/
theorem lset_any {i : Nat} {fo : Bool} (p : Pp) (val : Int) (h : Lb w B b cap v L) (hl : L.length ≤ cap) (hc16 : cap ≤ 16) (hB : B ≤ w.heap.size) (HA : Hid (findS p.k L = i)) (HF : Hid (hitS p.k L = fo)) :
    Calls Try.prog 64 #[.pointer (some ⟨b, 0, none⟩), .int .i64 i, .bool fo, ppV p, .int .u64 val] w fun e w' => e = .returned (resG (setS cap L p val).1.E (setS cap L p val).1.f (setS cap L p val).1.v false 0 0) ∧ LbNext w B b cap v (setS cap L p val).2 w' := by
  have hi := findS_le p.k L
  cases fo with
  | true =>
    have hlt := hitS_lt HF.out
    have hs : setS cap L p val = (⟨0, true, val⟩, L.set i p) := by unfold setS; rw [if_pos HF.out, HA.out]
    rw [hs]
    rw [HA.out] at hlt
    refine (lset_yes p val h (by omega) hlt).mono ?_
    rintro e w' ⟨rfl, h1, h2⟩
    exact ⟨rfl, v, h1, h2.mono (fun k e => .inr e), .inl rfl⟩
  | false =>
    have hf : ¬ hitS p.k L = true := by rw [HF.out]; decide
    by_cases hc : cap ≤ L.length
    · have hs : setS cap L p val = (⟨40, false, 0⟩, L) := by unfold setS; rw [if_neg hf, if_pos hc]
      rw [hs]
      refine (lset_full i p val h (by omega) hc16 hc).mono ?_
      rintro e w' ⟨rfl, h1⟩
      exact ⟨rfl, LbNext.same h h1⟩
    · have hs : setS cap L p val = (⟨0, false, val⟩, insL i p L) := by unfold setS; rw [if_neg hf, if_neg hc, HA.out]
      rw [hs]
      refine (lset_new p val h (by omega) (by rw [← HA.out]; exact hi) hc16 (by omega) hB).mono ?_
      rintro e w' ⟨rfl, h1⟩
      exact ⟨rfl, h1⟩
theorem lvalue_any {i : Nat} {fo : Bool} (key : Int) (h : Lb w B b cap v L) (HA : Hid (findS key L = i)) (HF : Hid (hitS key L = fo)) {had : Int} (HD : Hid (hadS key L = had)) : Calls Try.prog 63 #[.pointer (some ⟨b, 0, none⟩), .int .i64 i, .bool fo] w fun e w' => e = .returned (.int .u64 had) ∧ w = w' := by
  rw [← HD.out, hadS]
  cases fo with
  | true =>
    have hlt := hitS_lt HF.out
    rw [if_pos HF.out, HA.out]
    rw [HA.out] at hlt
    exact lvalue_yes h hlt
  | false =>
    rw [if_neg (by rw [HF.out]; decide)]
    exact lvalue_no i
theorem ldrop_any {i : Nat} {fo : Bool} (key : Int) (h : Lb w B b cap v L) (hl : L.length ≤ 1000) (HA : Hid (findS key L = i)) (HF : Hid (hitS key L = fo)) : Calls Try.prog 65 #[.pointer (some ⟨b, 0, none⟩), .int .i64 i, .bool fo] w fun e w' => e = .returned (.tuple #[]) ∧ LbNext w B b cap v (dropS L key) w' := by
  rw [dropS]
  cases fo with
  | true =>
    have hlt := hitS_lt HF.out
    rw [if_pos HF.out, HA.out]
    rw [HA.out] at hlt
    refine (ldrop_yes h hl hlt).mono ?_
    rintro e w' ⟨rfl, v', h1, h2, h3⟩
    exact ⟨rfl, v', h1, h2, .inl h3⟩
  | false =>
    rw [if_neg (by rw [HF.out]; decide)]
    refine (ldrop_no i).mono ?_
    rintro e w' ⟨rfl, rfl⟩
    exact ⟨rfl, LbNext.same h (Below.refl _ _)⟩
set_option maxHeartbeats 4000000 in
theorem ldo_get (key val : Int) (h : Lb w B b cap v L) (hl : L.length ≤ cap) (hc16 : cap ≤ 16) (hB : B ≤ w.heap.size) :
    Calls Try.prog 59 #[.pointer (some ⟨b, 0, none⟩), .int .i64 0, .int .u64 key, .int .u64 val] w fun e w' => e = .returned (resG (doS cap L 0 key val).1.E (doS cap L 0 key val).1.f (doS cap L 0 key val).1.v false 0 0) ∧ LbNext w B b cap v (doS cap L 0 key val).2 w' := by
  obtain ⟨X, HX, HrX, hbX, hzX⟩ := boxRG w
  have HB := keepG (h.below hbX)
  have hblt := h.hp.lt
  have hgw0 := h.row.lt
  obtain ⟨i, HA⟩ : ∃ i, Hid (findS key L = i) := ⟨_, rfl⟩
  obtain ⟨fo, HF⟩ : ∃ fo, Hid (hitS key L = fo) := ⟨_, rfl⟩
  obtain ⟨had, HD⟩ : ∃ had, Hid (hadS key L = had) := ⟨_, rfl⟩
  have hs : doS cap L 0 key val = (⟨0, fo, had⟩, L) := by unfold doS; rw [if_pos rfl, HF.out, HD.out]
  rw [hs]
  clear h
  go_enter Try.func59, Try.ntmps59
  go_wp2_with (first
    | (go_at_call 62; rw [HX.out]; go_must (refine (lfind_any key HB.out (by omega) HA HF).mono ?_); rintro e w1 ⟨rfl, hb1⟩; go_must (have HB1 := keepG (HB.out.below hb1); have HrX1 := keepG (HrX.out.below hb1 (by omega))))
    | (go_at_call 63; go_must (refine (lvalue_any key HB1.out HA HF HD).mono ?_); rintro e w2 ⟨rfl, rfl⟩; go_must (have x0 := HrX1.out.cell (j := 0) rfl; have f0 := HrX1.out.frozen 0; have x1 := HrX1.out.cell (j := 1) rfl; have f1 := HrX1.out.frozen 1; have x2 := HrX1.out.cell (j := 2) rfl; have f2 := HrX1.out.frozen 2; have x3 := HrX1.out.cell (j := 3) rfl; have f3 := HrX1.out.frozen 3; have x4 := HrX1.out.cell (j := 4) rfl; have f4 := HrX1.out.frozen 4; have x5 := HrX1.out.cell (j := 5) rfl; have f5 := HrX1.out.frozen 5)))
  exact ldo_end HrX1.out (LbNext.same HB1.out (Below.refl _ _)) hbX hb1 hzX hblt hgw0
set_option maxHeartbeats 4000000 in
theorem ldo_has (key val : Int) (h : Lb w B b cap v L) (hl : L.length ≤ cap) (hc16 : cap ≤ 16) (hB : B ≤ w.heap.size) :
    Calls Try.prog 59 #[.pointer (some ⟨b, 0, none⟩), .int .i64 1, .int .u64 key, .int .u64 val] w fun e w' => e = .returned (resG (doS cap L 1 key val).1.E (doS cap L 1 key val).1.f (doS cap L 1 key val).1.v false 0 0) ∧ LbNext w B b cap v (doS cap L 1 key val).2 w' := by
  obtain ⟨X, HX, HrX, hbX, hzX⟩ := boxRG w
  have HB := keepG (h.below hbX)
  have hblt := h.hp.lt
  have hgw0 := h.row.lt
  obtain ⟨i, HA⟩ : ∃ i, Hid (findS key L = i) := ⟨_, rfl⟩
  obtain ⟨fo, HF⟩ : ∃ fo, Hid (hitS key L = fo) := ⟨_, rfl⟩
  obtain ⟨had, HD⟩ : ∃ had, Hid (hadS key L = had) := ⟨_, rfl⟩
  have hs : doS cap L 1 key val = (⟨0, fo, 0⟩, L) := by unfold doS; rw [if_neg (by decide), if_pos rfl, HF.out]
  rw [hs]
  clear h
  go_enter Try.func59, Try.ntmps59
  go_wp2_with (first
    | (go_at_call 62; rw [HX.out]; go_must (refine (lfind_any key HB.out (by omega) HA HF).mono ?_); rintro e w1 ⟨rfl, hb1⟩; go_must (have HB1 := keepG (HB.out.below hb1); have HrX1 := keepG (HrX.out.below hb1 (by omega))))
    | (go_at_call 63; go_must (refine (lvalue_any key HB1.out HA HF HD).mono ?_); rintro e w2 ⟨rfl, rfl⟩; go_must (have x0 := HrX1.out.cell (j := 0) rfl; have f0 := HrX1.out.frozen 0; have x1 := HrX1.out.cell (j := 1) rfl; have f1 := HrX1.out.frozen 1; have x2 := HrX1.out.cell (j := 2) rfl; have f2 := HrX1.out.frozen 2; have x3 := HrX1.out.cell (j := 3) rfl; have f3 := HrX1.out.frozen 3; have x4 := HrX1.out.cell (j := 4) rfl; have f4 := HrX1.out.frozen 4; have x5 := HrX1.out.cell (j := 5) rfl; have f5 := HrX1.out.frozen 5)))
  exact ldo_end HrX1.out (LbNext.same HB1.out (Below.refl _ _)) hbX hb1 hzX hblt hgw0
set_option maxHeartbeats 4000000 in
theorem ldo_odd (op : Int) (hop : op ≠ 0 ∧ op ≠ 1 ∧ op ≠ 2 ∧ op ≠ 3 ∧ op ≠ 4) (key val : Int) (h : Lb w B b cap v L) (hl : L.length ≤ cap) (hc16 : cap ≤ 16) (hB : B ≤ w.heap.size) :
    Calls Try.prog 59 #[.pointer (some ⟨b, 0, none⟩), .int .i64 op, .int .u64 key, .int .u64 val] w fun e w' => e = .returned (resG (doS cap L op key val).1.E (doS cap L op key val).1.f (doS cap L op key val).1.v false 0 0) ∧ LbNext w B b cap v (doS cap L op key val).2 w' := by
  obtain ⟨X, HX, HrX, hbX, hzX⟩ := boxRG w
  have HB := keepG (h.below hbX)
  have hblt := h.hp.lt
  have hgw0 := h.row.lt
  obtain ⟨i, HA⟩ : ∃ i, Hid (findS key L = i) := ⟨_, rfl⟩
  obtain ⟨fo, HF⟩ : ∃ fo, Hid (hitS key L = fo) := ⟨_, rfl⟩
  obtain ⟨had, HD⟩ : ∃ had, Hid (hadS key L = had) := ⟨_, rfl⟩
  obtain ⟨o0, o1, o2, o3, o4⟩ := hop
  have hs : doS cap L op key val = (⟨2, false, 0⟩, L) := by unfold doS; rw [if_neg o0, if_neg o1, if_neg o2, if_neg o3, if_neg o4]
  rw [hs]
  clear h
  go_enter Try.func59, Try.ntmps59
  go_wp2_with (first
    | (go_at_call 62; rw [HX.out]; go_must (refine (lfind_any key HB.out (by omega) HA HF).mono ?_); rintro e w1 ⟨rfl, hb1⟩; go_must (have HB1 := keepG (HB.out.below hb1); have HrX1 := keepG (HrX.out.below hb1 (by omega))))
    | (go_at_call 63; go_must (refine (lvalue_any key HB1.out HA HF HD).mono ?_); rintro e w2 ⟨rfl, rfl⟩; go_must (have x0 := HrX1.out.cell (j := 0) rfl; have f0 := HrX1.out.frozen 0; have x1 := HrX1.out.cell (j := 1) rfl; have f1 := HrX1.out.frozen 1; have x2 := HrX1.out.cell (j := 2) rfl; have f2 := HrX1.out.frozen 2; have x3 := HrX1.out.cell (j := 3) rfl; have f3 := HrX1.out.frozen 3; have x4 := HrX1.out.cell (j := 4) rfl; have f4 := HrX1.out.frozen 4; have x5 := HrX1.out.cell (j := 5) rfl; have f5 := HrX1.out.frozen 5)))
  exact ldo_end HrX1.out (LbNext.same HB1.out (Below.refl _ _)) hbX hb1 hzX hblt hgw0
set_option maxHeartbeats 4000000 in
theorem ldo_put (key val : Int) (h : Lb w B b cap v L) (hl : L.length ≤ cap) (hc16 : cap ≤ 16) (hB : B ≤ w.heap.size) :
    Calls Try.prog 59 #[.pointer (some ⟨b, 0, none⟩), .int .i64 2, .int .u64 key, .int .u64 val] w fun e w' => e = .returned (resG (doS cap L 2 key val).1.E (doS cap L 2 key val).1.f (doS cap L 2 key val).1.v false 0 0) ∧ LbNext w B b cap v (doS cap L 2 key val).2 w' := by
  obtain ⟨X, HX, HrX, hbX, hzX⟩ := boxRG w
  have HB := keepG (h.below hbX)
  have hblt := h.hp.lt
  have hgw0 := h.row.lt
  obtain ⟨i, HA⟩ : ∃ i, Hid (findS key L = i) := ⟨_, rfl⟩
  obtain ⟨fo, HF⟩ : ∃ fo, Hid (hitS key L = fo) := ⟨_, rfl⟩
  obtain ⟨had, HD⟩ : ∃ had, Hid (hadS key L = had) := ⟨_, rfl⟩
  have hs : doS cap L 2 key val = setS cap L ⟨key, val⟩ had := by unfold doS; rw [if_neg (by decide), if_neg (by decide), if_pos rfl, HD.out]
  rw [hs]
  obtain ⟨R, HR⟩ : ∃ R, Hid (setS cap L ⟨key, val⟩ had = R) := ⟨_, rfl⟩
  rw [HR.out]
  clear h
  go_enter Try.func59, Try.ntmps59
  go_wp2_with (first
    | (go_at_call 62; rw [HX.out]; go_must (refine (lfind_any key HB.out (by omega) HA HF).mono ?_); rintro e w1 ⟨rfl, hb1⟩; go_must (have HB1 := keepG (HB.out.below hb1); have HrX1 := keepG (HrX.out.below hb1 (by omega))))
    | (go_at_call 63; go_must (refine (lvalue_any key HB1.out HA HF HD).mono ?_); rintro e w2 ⟨rfl, rfl⟩)
    | (go_at_call 64; go_must (refine (lset_any ⟨key, val⟩ had HB1.out hl hc16 (by have := hb1.size; omega) HA HF).mono ?_); rintro e w3 ⟨rfl, hn⟩; go_must (rw [HR.out] at hn ⊢; have HN := keepG hn; have Hr3 := hn.box HrX1.out (by omega) (fun e => by have := (hgw0 _ e).2; omega); have HR3 := keepG Hr3; have x0 := Hr3.cell (j := 0) rfl; have f0 := Hr3.frozen 0; have x1 := Hr3.cell (j := 1) rfl; have f1 := Hr3.frozen 1; have x2 := Hr3.cell (j := 2) rfl; have f2 := Hr3.frozen 2; have x3 := Hr3.cell (j := 3) rfl; have f3 := Hr3.frozen 3; have x4 := Hr3.cell (j := 4) rfl; have f4 := Hr3.frozen 4; have x5 := Hr3.cell (j := 5) rfl; have f5 := Hr3.frozen 5; clear hn Hr3)))
  exact ldo_end HR3.out HN.out hbX hb1 hzX hblt hgw0
set_option maxHeartbeats 4000000 in
theorem ldo_add (key val : Int) (h : Lb w B b cap v L) (hl : L.length ≤ cap) (hc16 : cap ≤ 16) (hB : B ≤ w.heap.size) :
    Calls Try.prog 59 #[.pointer (some ⟨b, 0, none⟩), .int .i64 4, .int .u64 key, .int .u64 val] w fun e w' => e = .returned (resG (doS cap L 4 key val).1.E (doS cap L 4 key val).1.f (doS cap L 4 key val).1.v false 0 0) ∧ LbNext w B b cap v (doS cap L 4 key val).2 w' := by
  obtain ⟨X, HX, HrX, hbX, hzX⟩ := boxRG w
  have HB := keepG (h.below hbX)
  have hblt := h.hp.lt
  have hgw0 := h.row.lt
  obtain ⟨i, HA⟩ : ∃ i, Hid (findS key L = i) := ⟨_, rfl⟩
  obtain ⟨fo, HF⟩ : ∃ fo, Hid (hitS key L = fo) := ⟨_, rfl⟩
  obtain ⟨had, HD⟩ : ∃ had, Hid (hadS key L = had) := ⟨_, rfl⟩
  obtain ⟨sum, HS⟩ : ∃ sum, Hid ((had + val) % 18446744073709551616 = sum) := ⟨_, rfl⟩
  have hwr : IntKind.u64.wrap (had + val) = sum := by rw [← HS.out, IntKind.wrap_u64]
  have hs : doS cap L 4 key val = setS cap L ⟨key, sum⟩ sum := by unfold doS; rw [if_neg (by decide), if_neg (by decide), if_neg (by decide), if_neg (by decide), if_pos rfl, HD.out, HS.out]
  rw [hs]
  obtain ⟨R, HR⟩ : ∃ R, Hid (setS cap L ⟨key, sum⟩ sum = R) := ⟨_, rfl⟩
  rw [HR.out]
  clear h
  go_enter Try.func59, Try.ntmps59
  go_wp2_with (first
    | (go_at_call 62; rw [HX.out]; go_must (refine (lfind_any key HB.out (by omega) HA HF).mono ?_); rintro e w1 ⟨rfl, hb1⟩; go_must (have HB1 := keepG (HB.out.below hb1); have HrX1 := keepG (HrX.out.below hb1 (by omega))))
    | (go_at_call 63; go_must (refine (lvalue_any key HB1.out HA HF HD).mono ?_); rintro e w2 ⟨rfl, rfl⟩)
    | (go_at_call 64; go_must (refine (lset_any ⟨key, sum⟩ sum HB1.out hl hc16 (by have := hb1.size; omega) HA HF).mono ?_); rintro e w3 ⟨rfl, hn⟩; go_must (rw [HR.out] at hn ⊢; have HN := keepG hn; have Hr3 := hn.box HrX1.out (by omega) (fun e => by have := (hgw0 _ e).2; omega); have HR3 := keepG Hr3; have x0 := Hr3.cell (j := 0) rfl; have f0 := Hr3.frozen 0; have x1 := Hr3.cell (j := 1) rfl; have f1 := Hr3.frozen 1; have x2 := Hr3.cell (j := 2) rfl; have f2 := Hr3.frozen 2; have x3 := Hr3.cell (j := 3) rfl; have f3 := Hr3.frozen 3; have x4 := Hr3.cell (j := 4) rfl; have f4 := Hr3.frozen 4; have x5 := Hr3.cell (j := 5) rfl; have f5 := Hr3.frozen 5; clear hn Hr3)))
  exact ldo_end HR3.out HN.out hbX hb1 hzX hblt hgw0
set_option maxHeartbeats 4000000 in
theorem ldo_del (key val : Int) (h : Lb w B b cap v L) (hl : L.length ≤ cap) (hc16 : cap ≤ 16) (hB : B ≤ w.heap.size) :
    Calls Try.prog 59 #[.pointer (some ⟨b, 0, none⟩), .int .i64 3, .int .u64 key, .int .u64 val] w fun e w' => e = .returned (resG (doS cap L 3 key val).1.E (doS cap L 3 key val).1.f (doS cap L 3 key val).1.v false 0 0) ∧ LbNext w B b cap v (doS cap L 3 key val).2 w' := by
  obtain ⟨X, HX, HrX, hbX, hzX⟩ := boxRG w
  have HB := keepG (h.below hbX)
  have hblt := h.hp.lt
  have hgw0 := h.row.lt
  obtain ⟨i, HA⟩ : ∃ i, Hid (findS key L = i) := ⟨_, rfl⟩
  obtain ⟨fo, HF⟩ : ∃ fo, Hid (hitS key L = fo) := ⟨_, rfl⟩
  obtain ⟨had, HD⟩ : ∃ had, Hid (hadS key L = had) := ⟨_, rfl⟩
  have hs : doS cap L 3 key val = (⟨0, fo, had⟩, dropS L key) := by unfold doS; rw [if_neg (by decide), if_neg (by decide), if_neg (by decide), if_pos rfl, HF.out, HD.out]
  rw [hs]
  clear h
  go_enter Try.func59, Try.ntmps59
  go_wp2_with (first
    | (go_at_call 62; rw [HX.out]; go_must (refine (lfind_any key HB.out (by omega) HA HF).mono ?_); rintro e w1 ⟨rfl, hb1⟩; go_must (have HB1 := keepG (HB.out.below hb1); have HrX1 := keepG (HrX.out.below hb1 (by omega))))
    | (go_at_call 63; go_must (refine (lvalue_any key HB1.out HA HF HD).mono ?_); rintro e w2 ⟨rfl, rfl⟩)
    | (go_at_call 65; go_must (refine (ldrop_any key HB1.out (by omega) HA HF).mono ?_); rintro e w3 ⟨rfl, hn⟩; go_must (have HN := keepG hn; have Hr3 := hn.box HrX1.out (by omega) (fun e => by have := (hgw0 _ e).2; omega); have HR3 := keepG Hr3; have x0 := Hr3.cell (j := 0) rfl; have f0 := Hr3.frozen 0; have x1 := Hr3.cell (j := 1) rfl; have f1 := Hr3.frozen 1; have x2 := Hr3.cell (j := 2) rfl; have f2 := Hr3.frozen 2; have x3 := Hr3.cell (j := 3) rfl; have f3 := Hr3.frozen 3; have x4 := Hr3.cell (j := 4) rfl; have f4 := Hr3.frozen 4; have x5 := Hr3.cell (j := 5) rfl; have f5 := Hr3.frozen 5; clear hn Hr3)))
  exact ldo_end HR3.out HN.out hbX hb1 hzX hblt hgw0
/-- Do is doS. -/
theorem ldo_any (op key val : Int) (h : Lb w B b cap v L) (hl : L.length ≤ cap) (hc16 : cap ≤ 16) (hB : B ≤ w.heap.size) :
    Calls Try.prog 59 #[.pointer (some ⟨b, 0, none⟩), .int .i64 op, .int .u64 key, .int .u64 val] w fun e w' => e = .returned (resG (doS cap L op key val).1.E (doS cap L op key val).1.f (doS cap L op key val).1.v false 0 0) ∧ LbNext w B b cap v (doS cap L op key val).2 w' := by
  by_cases h0 : op = 0
  · subst h0; exact ldo_get key val h hl hc16 hB
  by_cases h1 : op = 1
  · subst h1; exact ldo_has key val h hl hc16 hB
  by_cases h2 : op = 2
  · subst h2; exact ldo_put key val h hl hc16 hB
  by_cases h3 : op = 3
  · subst h3; exact ldo_del key val h hl hc16 hB
  by_cases h4 : op = 4
  · subst h4; exact ldo_add key val h hl hc16 hB
  exact ldo_odd op ⟨h0, h1, h2, h3, h4⟩ key val h hl hc16 hB
end
end Go.Proofs.Ytpbfgebecgikjaa
