
/-
  The landed book's set and drop. Condition: the book lies where the pointer says, its row is the call's own.
-/
import Derived.Test.YtpbfgebecgikjaaTk
import Derived.Test.YtpbfgebecgikjaaB13Land
namespace Go.Proofs.Ytpbfgebecgikjaa
open Go.RowKit
set_option linter.unusedVariables false
set_option linter.unusedSimpArgs false
set_option maxRecDepth 100000

abbrev ppV (p : Pp) : Value := .agg #[.int .u64 p.k, .int .u64 p.v]
/-- The argument's box and the result's. -/
theorem boxS (w : World) (p : Pp) : ∃ X, Hid ((w.alloc (.cells #[.int .u64 p.k, .int .u64 p.v] 80)).alloc (.cells #[.int .i64 0, .bool false, .int .u64 0, .bool false, .int .u64 0, .int .u64 0] 47) = X) ∧ Hid (Hp X w.heap.size 80 (ppC p)) ∧ Hid (Hp X (w.heap.size + 1) 47 (resCG 0 false 0 false 0 0)) ∧ Below w.heap.size w X ∧ X.heap.size = w.heap.size + 2 := by
  refine ⟨_, rfl, ?_, ?_, ?_, by simp⟩
  · exact (Hp.new w (ppC p) 80).below (below_allocG _ _) (by simp)
  · have := Hp.new (w.alloc (.cells #[.int .u64 p.k, .int .u64 p.v] 80)) (resCG 0 false 0 false 0 0) 47
    simp only [World.size_alloc] at this
    exact this
  · exact (below_allocG w _).trans ((below_allocG _ _).mono (by simp))
section
variable {w : World} {B b cap : Nat} {v : Value} {L : List Pp}
set_option maxHeartbeats 4000000 in
/-- There is no room. -/
theorem lset_full (i : Int) (p : Pp) (val : Int) (h : Lb w B b cap v L) (hl : L.length ≤ 1000) (hc16 : cap ≤ 16) (hcap : cap ≤ L.length) :
    Calls Try.prog 64 #[.pointer (some ⟨b, 0, none⟩), .int .i64 i, .bool false, ppV p, .int .u64 val] w fun e w' => e = .returned (resG 40 false 0 false 0 0) ∧ Below w.heap.size w w' := by
  obtain ⟨X, HX, HpX, HrX, hbX, hzX⟩ := boxS w p
  have HB := keepG (h.below hbX)
  have hblt := h.hp.lt
  obtain ⟨a, c, rfl⟩ := own_shape h.row
  have c0 := HB.out.hp.cell (j := 0) rfl
  have c1 := HB.out.hp.cell (j := 1) rfl
  have hcI : ¬ (L.length : Int) < cap := by omega
  have hcI2 : (cap : Int) ≤ L.length := by omega
  clear h
  go_enter Try.func64, Try.ntmps64
  go_wp2
  rw [HX.out]
  refine wp_region_held_drew (S := fun w' => w'.cell? ⟨b, 0, none⟩ = some (.int .i64 cap) ∧ w'.cell? ⟨b, 1, none⟩ = some (.slice a L.length c)) (by kernel_rfl) ⟨c0, c1⟩ (fun hHeld => ?_)
  refine tkGo [0, 1, 2, 3, 4, 5, 6, 7, 8, 9] ?_
  repeat (refine tkOne (v := ?_) rfl (by kernel_rfl) (by kernel_rfl) (by kernel_rfl) (fun _ _ _ h => h) (by assumption) (by rfl) ?_ ?_; rotate_left; (intro wy hSw; (try dsimp only at hSw); go_simp; (first | done | with_reducible rfl)); try simp only [Act.put, List.getElem_toArray, List.getElem_cons_zero, List.getElem_cons_succ, List.setIfInBounds_toArray, List.set_cons_zero, List.set_cons_succ])
  refine tkEnd ?_
  refine wpAnyH_done (by kernel_rfl) ?_ _
  have x0 := HrX.out.cell (j := 0) rfl
  have f0 := HrX.out.frozen 0
  have x1 := HrX.out.cell (j := 1) rfl
  have f1 := HrX.out.frozen 1
  have x2 := HrX.out.cell (j := 2) rfl
  have f2 := HrX.out.frozen 2
  have x3 := HrX.out.cell (j := 3) rfl
  have f3 := HrX.out.frozen 3
  have x4 := HrX.out.cell (j := 4) rfl
  have f4 := HrX.out.frozen 4
  have x5 := HrX.out.cell (j := 5) rfl
  have f5 := HrX.out.frozen 5
  go_wp2
  exact res_ret rfl rfl (six_sets HrX.out rfl).1.drew ⟨rfl, below_drG (hbX.trans (grown_to_below (six_sets HrX.out rfl).2 (by omega) (by omega)))⟩
set_option maxHeartbeats 4000000 in
/-- The key is there. -/
theorem lset_yes {i : Nat} (p : Pp) (val : Int) (h : Lb w B b cap v L) (hl : L.length ≤ 1000) (hi : i < L.length) :
    Calls Try.prog 64 #[.pointer (some ⟨b, 0, none⟩), .int .i64 i, .bool true, ppV p, .int .u64 val] w fun e w' => e = .returned (resG 0 true val false 0 0) ∧ Lb w' B b cap v (L.set i p) ∧ Chg w w' (fun k => v.ownBlock = some k) := by
  obtain ⟨X, HX, HpX, HrX, hbX, hzX⟩ := boxS w p
  have HB := keepG (h.below hbX)
  have hblt := h.hp.lt
  have hap := h.apart
  have hgw0 := h.row.lt
  obtain ⟨g, c, rfl, hgB, hgX, hgc, hcm, hat⟩ := own_atG ppC_len Pp.nil HB.out.row (by omega)
  have hgb : ¬ g = b := fun e => hap (by rw [e]; rfl)
  have hgw : g < w.heap.size := (hgw0 g rfl).2
  have d0 := hat i hi 0 (by omega)
  have d1 := hat i hi 1 (by omega)
  simp only [List.getElem?_cons_zero, List.getElem?_cons_succ, Nat.add_zero] at d0 d1
  obtain ⟨d0, f0'⟩ := d0
  obtain ⟨d1, f1'⟩ := d1
  have c1 := HB.out.hp.cell (j := 1) rfl
  have p0 := HpX.out.cell (j := 0) rfl
  have p1 := HpX.out.cell (j := 1) rfl
  have hiI : (i : Int) < L.length := by omega
  have n1 : ¬ g = w.heap.size := by omega
  have n2 : ¬ w.heap.size = g := by omega
  have n3 : ¬ g = w.heap.size + 1 := by omega
  have n4 : ¬ w.heap.size + 1 = g := by omega
  have HV : Hid (Lb ((X.setCell ⟨g, i * 2, none⟩ (.int .u64 p.k)).setCell ⟨g, i * 2 + 1, none⟩ (.int .u64 p.v)) B b cap (.slice (some ⟨g, 0, none⟩) L.length c) (L.set i p) ∧ Chg X ((X.setCell ⟨g, i * 2, none⟩ (.int .u64 p.k)).setCell ⟨g, i * 2 + 1, none⟩ (.int .u64 p.v)) (fun k => k = g)) := by
    have r1 := own_setG ppC_len Pp.nil HB.out.row (k := i) (j := 0) (x := ⟨p.k, (L.getD i Pp.nil).v⟩) (u := .int .u64 p.k) hi (by omega) rfl
    have r2 := own_setG ppC_len Pp.nil r1 (k := i) (j := 1) (x := p) (u := .int .u64 p.v) (by simpa using hi) (by omega) (by
      have : (L.set i ⟨p.k, (L.getD i Pp.nil).v⟩).getD i Pp.nil = ⟨p.k, (L.getD i Pp.nil).v⟩ := by simp [hi]
      rw [this]
      rfl)
    rw [List.set_set] at r2
    have hc : Chg X ((X.setCell ⟨g, i * 2, none⟩ (.int .u64 p.k)).setCell ⟨g, i * 2 + 1, none⟩ (.int .u64 p.v)) (fun k => k = g) := (Chg.set _ _ _ _).trans (Chg.set _ _ _ _) (fun _ _ e => e)
    refine ⟨⟨HB.out.hp.chg hc (fun e => hgb e.symm), ?_⟩, hc⟩
    have e : (L.set i p).length = L.length := List.length_set
    rw [e] at r2 ⊢
    exact r2
  obtain ⟨Y, HY⟩ : ∃ Y, Hid ((X.setCell ⟨g, i * 2, none⟩ (.int .u64 p.k)).setCell ⟨g, i * 2 + 1, none⟩ (.int .u64 p.v) = Y) := ⟨_, rfl⟩
  rw [HY.out] at HV
  have HrY := keepG (HrX.out.chg HV.out.2 (fun e => n4 e))
  have hzY := HV.out.2.size
  clear hat h
  go_enter Try.func64, Try.ntmps64
  go_wp2
  rw [HX.out]
  refine wp_region_held_drew (S := fun w' => w'.cell? ⟨b, 1, none⟩ = some (.slice (some ⟨g, 0, none⟩) L.length c) ∧ w'.cell? ⟨w.heap.size, 0, none⟩ = some (.int .u64 p.k) ∧ w'.cell? ⟨w.heap.size, 1, none⟩ = some (.int .u64 p.v)) (by kernel_rfl) ⟨c1, p0, p1⟩ (fun hHeld => ?_)
  refine tkGo [0, 1, 2, 3, 4, 5, 6] ?_
  repeat (refine tkOne (v := ?_) rfl (by kernel_rfl) (by kernel_rfl) (by kernel_rfl) (fun _ _ _ h => h) (by assumption) (by rfl) ?_ ?_; rotate_left; (intro wy hSw; (try dsimp only at hSw); go_simp; (first | done | with_reducible rfl)); try simp only [Act.put, List.getElem_toArray, List.getElem_cons_zero, List.getElem_cons_succ, List.setIfInBounds_toArray, List.set_cons_zero, List.set_cons_succ])
  refine tkEnd ?_
  refine wpAnyH_ready (rs := [7]) (by kernel_rfl) (by simp) ?_
  refine AllReadyH.cons rfl (fun KK hK => ?_) AllReadyH.nil
  rw [if_pos (by rfl)]
  go_simp
  rw [HY.out]
  have hS1 : Y.drew.cell? ⟨b, 1, none⟩ = some (.slice (some ⟨g, 0, none⟩) L.length c) := HV.out.1.drew.hp.cell (j := 1) rfl
  have HpY := (HpX.out.chg HV.out.2 (fun e => n2 e)).drew
  refine hK.out _ _ ⟨hS1, HpY.cell (j := 0) rfl, HpY.cell (j := 1) rfl⟩ (fun hHeld => ?_)
  clear hK KK HpY
  try simp only [Act.put, List.getElem_toArray, List.getElem_cons_zero, List.getElem_cons_succ, List.setIfInBounds_toArray, List.set_cons_zero, List.set_cons_succ]
  refine wpAnyH_done (by kernel_rfl) ?_ _
  have x0 := HrY.out.cell (j := 0) rfl
  have f0 := HrY.out.frozen 0
  have x1 := HrY.out.cell (j := 1) rfl
  have f1 := HrY.out.frozen 1
  have x2 := HrY.out.cell (j := 2) rfl
  have f2 := HrY.out.frozen 2
  have x3 := HrY.out.cell (j := 3) rfl
  have f3 := HrY.out.frozen 3
  have x4 := HrY.out.cell (j := 4) rfl
  have f4 := HrY.out.frozen 4
  have x5 := HrY.out.cell (j := 5) rfl
  have f5 := HrY.out.frozen 5
  clear c1 p0 p1 d0 d1 f0' f1' hS1
  go_wp2
  have hg6 := (six_sets (E := 0) (f := true) (v := val) (o := false) (k := 0) (u := 0) HrY.out rfl).2
  have hc6 := Chg.of_grown (S := fun k => k = w.heap.size + 1) hg6 rfl
  refine res_ret rfl rfl (six_sets HrY.out rfl).1.drew ⟨rfl, (HV.out.1.chg hc6 (fun e => by omega) (fun k hk e => by have := Option.some.inj hk; simp at this; omega)).drew, ?_⟩
  have hA : Chg w X (fun k => (Value.slice (some ⟨g, 0, none⟩) L.length c).ownBlock = some k) := Chg.of_below hbX
  exact ((hA.trans HV.out.2 (fun k _ e => by rw [e]; rfl)).trans hc6 (fun k hk e => by omega)).drewN 1
/-- What is left behind a new key. -/
theorem lset_end {X Z w1 Y : World} {v' : Value} {L' : List Pp} {val : Int} {fn : Func} {tmps : Array Value} {pt : Tmp} (HrY : Hp Y (w.heap.size + 1) 47 (resCG 0 false 0 false 0 0)) (HbY : Hp Y b 114 [.int .i64 cap, v']) (hown : w1.ownsRow B 80 2 v' L'.length (flatG ppC L')) (hch : Chg Z w1 (fun k => v.ownBlock = some k)) (hcY : Chg w1 Y (fun k => k = b)) (hbX : Below w.heap.size w X) (hbZ : Below X.heap.size X Z) (hblt : b < w.heap.size) (hzX : X.heap.size = w.heap.size + 2) (hzZ : Z.heap.size = w.heap.size + 3) (hgw : ∀ k, v.ownBlock = some k → B ≤ k ∧ k < w.heap.size) (hap : v.ownBlock ≠ some b) (hnew : v'.ownBlock = v.ownBlock ∨ v'.ownBlock = some Z.heap.size) (hr : fn.results = #[.cell pt 47] := by rfl) (hp : tmps.getD pt undef = .pointer (some ⟨w.heap.size + 1, 0, none⟩) := by rfl) :
    bodyPost Try.prog fn (fun e w' => e = .returned (resG 0 false val false 0 0) ∧ ∃ v', Lb w' B b cap v' L' ∧ Chg w w' (bkS b v) ∧ RowNew w v v') .ret ⟨tmps, []⟩ ((((((Y.setCell ⟨w.heap.size + 1, 0, none⟩ (.int .i64 0)).setCell ⟨w.heap.size + 1, 1, none⟩ (.bool false)).setCell ⟨w.heap.size + 1, 2, none⟩ (.int .u64 val)).setCell ⟨w.heap.size + 1, 3, none⟩ (.bool false)).setCell ⟨w.heap.size + 1, 4, none⟩ (.int .u64 0)).setCell ⟨w.heap.size + 1, 5, none⟩ (.int .u64 0)) := by
  have hg6 := (six_sets (E := 0) (f := false) (v := val) (o := false) (k := 0) (u := 0) HrY rfl).2
  have hc6 := Chg.of_grown (S := fun k => k = w.heap.size + 1) hg6 rfl
  have hne : ∀ k, v'.ownBlock = some k → k ≠ b ∧ k ≠ w.heap.size + 1 := by
    intro k hk
    rcases hnew with g | g
    · rw [g] at hk
      have := (hgw k hk).2
      exact ⟨fun e => hap (by rw [hk, e]), by omega⟩
    · rw [g] at hk
      have := Option.some.inj hk
      omega
  refine res_ret hr hp (six_sets HrY rfl).1 ⟨rfl, v', ⟨HbY.chg hc6 (fun e => by omega), own_chg (own_chg hown hcY (fun k hk e => (hne k hk).1 e)) hc6 (fun k hk e => (hne k hk).2 e)⟩, ?_, ?_⟩
  · have hA : Chg w X (bkS b v) := Chg.of_below hbX
    have hB : Chg w Z (bkS b v) := hA.trans (Chg.of_below (S := fun _ => False) hbZ) (fun _ _ e => e.elim)
    exact ((hB.trans hch (fun k _ e => .inr e)).trans hcY (fun k _ e => .inl e)).trans hc6 (fun k hk e => by omega)
  · rcases hnew with g | g
    · exact .inl g
    · exact .inr ⟨_, g, by omega⟩
set_option maxHeartbeats 4000000 in
/-- A new key. -/
theorem lset_new {i : Nat} (p : Pp) (val : Int) (h : Lb w B b cap v L) (hl : L.length ≤ 1000) (hi : i ≤ L.length) (hc16 : cap ≤ 16) (hcap : L.length < cap) (hB : B ≤ w.heap.size) :
    Calls Try.prog 64 #[.pointer (some ⟨b, 0, none⟩), .int .i64 i, .bool false, ppV p, .int .u64 val] w fun e w' => e = .returned (resG 0 false val false 0 0) ∧ ∃ v', Lb w' B b cap v' (insL i p L) ∧ Chg w w' (bkS b v) ∧ RowNew w v v' := by
  obtain ⟨X, HX, HpX, HrX, hbX, hzX⟩ := boxS w p
  have HB := keepG (h.below hbX)
  have hblt := h.hp.lt
  have hgw0 := h.row.lt
  have hap := h.apart
  obtain ⟨a, c, rfl⟩ := own_shape h.row
  have c0 := HB.out.hp.cell (j := 0) rfl
  have c1 := HB.out.hp.cell (j := 1) rfl
  have p0 := HpX.out.cell (j := 0) rfl
  have p1 := HpX.out.cell (j := 1) rfl
  have hcI : ¬ (cap : Int) ≤ L.length := by omega
  clear h
  go_enter Try.func64, Try.ntmps64
  go_wp2
  rw [HX.out]
  refine wp_region_held_drew (S := fun w' => w'.cell? ⟨b, 0, none⟩ = some (.int .i64 cap) ∧ w'.cell? ⟨b, 1, none⟩ = some (.slice a L.length c)) (by kernel_rfl) ⟨c0, c1⟩ (fun hHeld => ?_)
  refine tkGo [0, 1, 2, 3, 4, 5, 6, 7, 8, 9] ?_
  repeat (refine tkOne (v := ?_) rfl (by kernel_rfl) (by kernel_rfl) (by kernel_rfl) (fun _ _ _ h => h) (by assumption) (by rfl) ?_ ?_; rotate_left; (intro wy hSw; (try dsimp only at hSw); go_simp; (first | done | with_reducible rfl)); try simp only [Act.put, List.getElem_toArray, List.getElem_cons_zero, List.getElem_cons_succ, List.setIfInBounds_toArray, List.set_cons_zero, List.set_cons_succ])
  refine tkEnd ?_
  refine wpAnyH_done (by kernel_rfl) ?_ _
  go_wp2
  obtain ⟨Z, HZ, hbZ, HpZ, hzZ⟩ : ∃ Z, Hid ((X.alloc (.cells #[.int .u64 p.k, .int .u64 p.v] 80)).drew.drew = Z) ∧ Below X.heap.size X Z ∧ Hid (Hp Z X.heap.size 80 (ppC p)) ∧ Z.heap.size = w.heap.size + 3 :=
    ⟨_, rfl, below_drG (below_drG (below_allocG X _)), (Hp.new X (ppC p) 80).drew.drew, by simp [hzX]⟩
  rw [hzX] at HpZ
  have HBZ := keepG (HB.out.below hbZ)
  have HP2 := keepG (HpX.out.below hbZ (by omega))
  have cZ := HBZ.out.hp.cell (j := 1) rfl
  refine wp_region_held_drew (S := fun w' => w'.cell? ⟨w.heap.size, 0, none⟩ = some (.int .u64 p.k) ∧ w'.cell? ⟨w.heap.size, 1, none⟩ = some (.int .u64 p.v)) (by kernel_rfl) ⟨p0, p1⟩ (fun hHeld => ?_)
  refine tkGo [0, 1, 2, 3, 5, 6] ?_
  repeat (refine tkOne (v := ?_) rfl (by kernel_rfl) (by kernel_rfl) (by kernel_rfl) (fun _ _ _ h => h) (by assumption) (by rfl) ?_ ?_; rotate_left; (intro wy hSw; (try dsimp only at hSw); go_simp; (first | done | with_reducible rfl)); try simp only [Act.put, List.getElem_toArray, List.getElem_cons_zero, List.getElem_cons_succ, List.setIfInBounds_toArray, List.set_cons_zero, List.set_cons_succ])
  refine tkEnd ?_
  refine wpAnyH_ready (rs := [4, 7]) (by kernel_rfl) (by simp) ?_
  refine AllReadyH.cons rfl (fun KK hK => ?_) (AllReadyH.cons rfl (fun KK hK => ?_) AllReadyH.nil) <;> rw [if_pos (by rfl)]
  · go_simp
    refine hK.out _ _ ⟨p0, p1⟩ (fun hHeld => ?_)
    clear hK KK
    try simp only [Act.put, List.getElem_toArray, List.getElem_cons_zero, List.getElem_cons_succ, List.setIfInBounds_toArray, List.set_cons_zero, List.set_cons_succ]
    refine wpAnyH_ready (rs := [7]) (by kernel_rfl) (by simp) ?_
    refine AllReadyH.cons rfl (fun KK hK => ?_) AllReadyH.nil
    rw [if_pos (by rfl)]
    go_simp
    rw [HZ.out]
    refine hK.out _ _ ⟨HP2.out.cell (j := 0) rfl, HP2.out.cell (j := 1) rfl⟩ (fun hHeld => ?_)
    clear hK KK
    try simp only [Act.put, List.getElem_toArray, List.getElem_cons_zero, List.getElem_cons_succ, List.setIfInBounds_toArray, List.set_cons_zero, List.set_cons_succ]
    refine wpAnyH_ready (rs := [8]) (by kernel_rfl) (by simp) ?_
    refine AllReadyH.cons rfl (fun KK hK => ?_) AllReadyH.nil
    rw [if_pos (by rfl)]
    go_simp
    go_at_call 66
    refine (lins_any (vb := w.heap.size + 2) p HBZ.out.row hl (by omega) hi HpZ.out (fun e => by have := (hgw0 _ e).2; omega)).mono ?_
    rintro e w1 ⟨v', rfl, hown, hch, hnew⟩
    obtain ⟨a', c', rfl⟩ := own_shape hown
    have HOW := keepG hown
    have HCH := keepG hch
    have hz1 := hch.size
    have Hb1 := keepG (HBZ.out.hp.chg hch (fun e => hap e))
    have Hr1 := keepG ((HrX.out.below hbZ (by omega)).chg hch (fun e => by have := (hgw0 _ e).2; omega))
    have Hp1 := keepG (HP2.out.chg hch (fun e => by have := (hgw0 _ e).2; omega))
    clear hown hch c0 c1 p0 p1 cZ
    go_simp
    refine hK.out _ _ ⟨Hp1.out.cell (j := 0) rfl, Hp1.out.cell (j := 1) rfl⟩ (fun hHeld => ?_)
    clear hK KK
    try simp only [Act.put, List.getElem_toArray, List.getElem_cons_zero, List.getElem_cons_succ, List.setIfInBounds_toArray, List.set_cons_zero, List.set_cons_succ]
    refine tkGo [9, 10] ?_
    repeat (refine tkOne (v := ?_) rfl (by kernel_rfl) (by kernel_rfl) (by kernel_rfl) (fun _ _ _ h => h) (by assumption) (by rfl) ?_ ?_; rotate_left; (intro wy hSw; (try dsimp only at hSw); go_simp; (first | done | with_reducible rfl)); try simp only [Act.put, List.getElem_toArray, List.getElem_cons_zero, List.getElem_cons_succ, List.setIfInBounds_toArray, List.set_cons_zero, List.set_cons_succ])
    refine tkEnd ?_
    have c1 := Hb1.out.cell (j := 1) rfl
    have f1 := Hb1.out.frozen 1
    refine wpAnyH_ready (rs := [11]) (by kernel_rfl) (by simp) ?_
    refine AllReadyH.cons rfl (fun KK hK => ?_) AllReadyH.nil
    rw [if_pos (by rfl)]
    go_simp
    obtain ⟨Y, HY, HbY, hcY⟩ : ∃ Y, Hid (w1.setCell ⟨b, 1, none⟩ (.slice a' (insL i p L).length c') = Y) ∧ Hid (Hp Y b 114 [.int .i64 cap, .slice a' (insL i p L).length c']) ∧ Chg w1 Y (fun k => k = b) :=
      ⟨_, rfl, Hb1.out.set 1 _, Chg.set _ _ _ _⟩
    rw [HY.out]
    have HpY := Hp1.out.chg hcY (fun e => by omega)
    have HrY := keepG (Hr1.out.chg hcY (fun e => by omega))
    refine hK.out _ _ ⟨HpY.cell (j := 0) rfl, HpY.cell (j := 1) rfl⟩ (fun hHeld => ?_)
    clear hK KK HpY c1 f1
    try simp only [Act.put, List.getElem_toArray, List.getElem_cons_zero, List.getElem_cons_succ, List.setIfInBounds_toArray, List.set_cons_zero, List.set_cons_succ]
    refine wpAnyH_done (by kernel_rfl) ?_ _
    have hzY := hcY.size
    have x0 := HrY.out.cell (j := 0) rfl
    have f0 := HrY.out.frozen 0
    have x1 := HrY.out.cell (j := 1) rfl
    have f1 := HrY.out.frozen 1
    have x2 := HrY.out.cell (j := 2) rfl
    have f2 := HrY.out.frozen 2
    have x3 := HrY.out.cell (j := 3) rfl
    have f3 := HrY.out.frozen 3
    have x4 := HrY.out.cell (j := 4) rfl
    have f4 := HrY.out.frozen 4
    have x5 := HrY.out.cell (j := 5) rfl
    have f5 := HrY.out.frozen 5
    go_wp2
    exact lset_end HrY.out HbY.out HOW.out HCH.out hcY hbX hbZ hblt hzX hzZ hgw0 hap hnew
  · go_simp
    rw [HZ.out]
    refine hK.out _ _ ⟨HP2.out.cell (j := 0) rfl, HP2.out.cell (j := 1) rfl⟩ (fun hHeld => ?_)
    clear hK KK
    try simp only [Act.put, List.getElem_toArray, List.getElem_cons_zero, List.getElem_cons_succ, List.setIfInBounds_toArray, List.set_cons_zero, List.set_cons_succ]
    refine wpAnyH_ready (rs := [4]) (by kernel_rfl) (by simp) ?_
    refine AllReadyH.cons rfl (fun KK hK => ?_) AllReadyH.nil
    rw [if_pos (by rfl)]
    go_simp
    refine hK.out _ _ ⟨HP2.out.cell (j := 0) rfl, HP2.out.cell (j := 1) rfl⟩ (fun hHeld => ?_)
    clear hK KK
    try simp only [Act.put, List.getElem_toArray, List.getElem_cons_zero, List.getElem_cons_succ, List.setIfInBounds_toArray, List.set_cons_zero, List.set_cons_succ]
    refine wpAnyH_ready (rs := [8]) (by kernel_rfl) (by simp) ?_
    refine AllReadyH.cons rfl (fun KK hK => ?_) AllReadyH.nil
    rw [if_pos (by rfl)]
    go_simp
    go_at_call 66
    refine (lins_any (vb := w.heap.size + 2) p HBZ.out.row hl (by omega) hi HpZ.out (fun e => by have := (hgw0 _ e).2; omega)).mono ?_
    rintro e w1 ⟨v', rfl, hown, hch, hnew⟩
    obtain ⟨a', c', rfl⟩ := own_shape hown
    have HOW := keepG hown
    have HCH := keepG hch
    have hz1 := hch.size
    have Hb1 := keepG (HBZ.out.hp.chg hch (fun e => hap e))
    have Hr1 := keepG ((HrX.out.below hbZ (by omega)).chg hch (fun e => by have := (hgw0 _ e).2; omega))
    have Hp1 := keepG (HP2.out.chg hch (fun e => by have := (hgw0 _ e).2; omega))
    clear hown hch c0 c1 p0 p1 cZ
    go_simp
    refine hK.out _ _ ⟨Hp1.out.cell (j := 0) rfl, Hp1.out.cell (j := 1) rfl⟩ (fun hHeld => ?_)
    clear hK KK
    try simp only [Act.put, List.getElem_toArray, List.getElem_cons_zero, List.getElem_cons_succ, List.setIfInBounds_toArray, List.set_cons_zero, List.set_cons_succ]
    refine tkGo [9, 10] ?_
    repeat (refine tkOne (v := ?_) rfl (by kernel_rfl) (by kernel_rfl) (by kernel_rfl) (fun _ _ _ h => h) (by assumption) (by rfl) ?_ ?_; rotate_left; (intro wy hSw; (try dsimp only at hSw); go_simp; (first | done | with_reducible rfl)); try simp only [Act.put, List.getElem_toArray, List.getElem_cons_zero, List.getElem_cons_succ, List.setIfInBounds_toArray, List.set_cons_zero, List.set_cons_succ])
    refine tkEnd ?_
    have c1 := Hb1.out.cell (j := 1) rfl
    have f1 := Hb1.out.frozen 1
    refine wpAnyH_ready (rs := [11]) (by kernel_rfl) (by simp) ?_
    refine AllReadyH.cons rfl (fun KK hK => ?_) AllReadyH.nil
    rw [if_pos (by rfl)]
    go_simp
    obtain ⟨Y, HY, HbY, hcY⟩ : ∃ Y, Hid (w1.setCell ⟨b, 1, none⟩ (.slice a' (insL i p L).length c') = Y) ∧ Hid (Hp Y b 114 [.int .i64 cap, .slice a' (insL i p L).length c']) ∧ Chg w1 Y (fun k => k = b) :=
      ⟨_, rfl, Hb1.out.set 1 _, Chg.set _ _ _ _⟩
    rw [HY.out]
    have HpY := Hp1.out.chg hcY (fun e => by omega)
    have HrY := keepG (Hr1.out.chg hcY (fun e => by omega))
    refine hK.out _ _ ⟨HpY.cell (j := 0) rfl, HpY.cell (j := 1) rfl⟩ (fun hHeld => ?_)
    clear hK KK HpY c1 f1
    try simp only [Act.put, List.getElem_toArray, List.getElem_cons_zero, List.getElem_cons_succ, List.setIfInBounds_toArray, List.set_cons_zero, List.set_cons_succ]
    refine wpAnyH_done (by kernel_rfl) ?_ _
    have hzY := hcY.size
    have x0 := HrY.out.cell (j := 0) rfl
    have f0 := HrY.out.frozen 0
    have x1 := HrY.out.cell (j := 1) rfl
    have f1 := HrY.out.frozen 1
    have x2 := HrY.out.cell (j := 2) rfl
    have f2 := HrY.out.frozen 2
    have x3 := HrY.out.cell (j := 3) rfl
    have f3 := HrY.out.frozen 3
    have x4 := HrY.out.cell (j := 4) rfl
    have f4 := HrY.out.frozen 4
    have x5 := HrY.out.cell (j := 5) rfl
    have f5 := HrY.out.frozen 5
    go_wp2
    exact lset_end HrY.out HbY.out HOW.out HCH.out hcY hbX hbZ hblt hzX hzZ hgw0 hap hnew
end
end Go.Proofs.Ytpbfgebecgikjaa
