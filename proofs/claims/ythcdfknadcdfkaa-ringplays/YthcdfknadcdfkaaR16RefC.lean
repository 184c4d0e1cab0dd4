
/-
  The document's ring of layer 16: Counts. Condition: it lies where the pointer says, its row is the call's own.
-/
import Derived.Test.YthcdfknadcdfkaaTk
import Derived.Test.YthcdfknadcdfkaaR16RefB
import Derived.Test.YthcdfknadcdfkaaTk
namespace Go.Proofs.Ythcdfknadcdfkaa
open Go.RowKit
set_option linter.unusedVariables false
set_option linter.unusedSimpArgs false
set_option maxRecDepth 100000
abbrev cntC (a r t d q : Int) : List Value := [.int .i64 a, .int .i64 r, .int .i64 t, .int .i64 d, .int .i64 q]
abbrev cntV (a r t d q : Int) : Value := .agg #[.int .i64 a, .int .i64 r, .int .i64 t, .int .i64 d, .int .i64 q]
theorem run_boxK {w : World} {n : Nat} {a r t d q : Int} (h : Hp w n 53 (cntC a r t d q)) : (loadVar 53 ⟨n, 0, none⟩).run Try.prog w = .ok (cntV a r t d q) w := by
  refine run_loadVar_mid w n 0 53 (cntC a r t d q) _ ?_ Try.underlying53 rfl (by kernel_rfl)
  intro j x hx
  rw [Nat.zero_add]
  exact h.cell hx
theorem results_cellK {fn : Func} {p : Tmp} {ty : TypeId} (h : fn.results = #[.cell p ty]) (tmps : Array Value) (P : Program) (w : World) :
    (results fn tmps).run P w = ((asAddr (tmps.getD p undef)).run P w).andThen fun a w₁ => (loadVar ty a).run P w₁ := by
  simp only [results, h]
  simp [Sem.run_bind, Result.andThen]
theorem cnt_ret {fn : Func} {p : Tmp} {w2 : World} {n : Nat} {tmps : Array Value} {a r t d q : Int} {Q : Ending → World → Prop} (hr : fn.results = #[.cell p 53]) (hp : tmps.getD p undef = .pointer (some ⟨n, 0, none⟩)) (hx : Hp w2 n 53 (cntC a r t d q)) (hQ : Q (.returned (cntV a r t d q)) w2) : bodyPost Try.prog fn Q .ret ⟨tmps, []⟩ w2 := by
  refine bodyPost_ret (v := cntV a r t d q) ?_ rfl hQ
  rw [results_cellK hr, hp]
  simp only [asAddr, Sem.run_pure, Result.andThen]
  rw [run_boxK hx]
theorem cnt10 {w : World} {n : Nat} {a r t d q : Int} (h : Hp w n 53 (cntC a r t d q)) : w.cell? ⟨n, 0, none⟩ = some (.int .i64 a) ∧ w.cell? ⟨n, 1, none⟩ = some (.int .i64 r) ∧ w.cell? ⟨n, 2, none⟩ = some (.int .i64 t) ∧ w.cell? ⟨n, 3, none⟩ = some (.int .i64 d) ∧ w.cell? ⟨n, 4, none⟩ = some (.int .i64 q) ∧ w.frozen? ⟨n, 0, none⟩ = false ∧ w.frozen? ⟨n, 1, none⟩ = false ∧ w.frozen? ⟨n, 2, none⟩ = false ∧ w.frozen? ⟨n, 3, none⟩ = false ∧ w.frozen? ⟨n, 4, none⟩ = false :=
  ⟨h.cell rfl, h.cell rfl, h.cell rfl, h.cell rfl, h.cell rfl, h.frozen 0, h.frozen 1, h.frozen 2, h.frozen 3, h.frozen 4⟩
def drewsK : Nat → World → World
  | 0, w => w
  | n + 1, w => (drewsK n w).drew
theorem drewsK_hp (n : Nat) {w : World} {b : Nat} {t : TypeId} {cs : List Value} (h : Hp w b t cs) : Hp (drewsK n w) b t cs := by
  induction n with
  | zero => exact h
  | succ n ih => exact ih.drew
theorem drewsK_below (n : Nat) {B : Nat} {w w' : World} (h : Below B w w') : Below B w (drewsK n w') := by
  induction n with
  | zero => exact h
  | succ n ih => exact below_drG ih
theorem cnt_end {fn : Func} {tmps : Array Value} {w T W : World} {n : Nat} {a r t d q a' r' t' d' q' : Int} (ho : Hp T w.heap.size 53 (cntC a' r' t' d' q')) (hb : Below w.heap.size w T) (hr : fn.results = #[.cell 2 53]) (hp : tmps.getD 2 undef = .pointer (some ⟨w.heap.size, 0, none⟩)) (hW : W = drewsK n (T.setCells w.heap.size 0 (cntC a r t d q))) :
    bodyPost Try.prog fn (fun e w' => e = .returned (cntV a r t d q) ∧ Below w.heap.size w w') .ret ⟨tmps, []⟩ W := by
  subst hW
  have hs := ho.sets (cntC a r t d q) 0
  rw [splice_all (cntC a r t d q) (cntC a' r' t' d' q') rfl] at hs
  exact cnt_ret hr hp (drewsK_hp n hs) ⟨rfl, drewsK_below n (hb.trans (grown_to_below (grown_sets w.heap.size (cntC a r t d q) T 0) (Nat.le_refl _) hb.size))⟩
section
variable {w : World} {B b : Nat} {v : Value}
set_option maxHeartbeats 3200000 in
theorem kCounts_any {rm tk rf : Nat} {cl : Bool} {al : List Qe} (h : Rk w B b v ⟨rm, tk, rf, cl, al⟩) (ht : tk ≤ al.length) : Calls Try.prog 20 #[.pointer (some ⟨b, 0, none⟩)] w fun e w' => e = .returned (cntV al.length rf tk (if cl = true then (al.length : Int) - tk else 0) (if cl = true then 0 else (al.length : Int) - tk)) ∧ Below w.heap.size w w' := by
  have hs := own_seesG qeC_len Qe.nil h.row
  simp only at hs
  obtain ⟨a, cap, rfl, hcap, hm⟩ := hs.shape
  have hlt := h.hp.lt
  have hw1 : IntKind.i64.wrap ((al.length : Int) - tk) = al.length - tk := by rw [IntKind.wrap_i64]; omega
  have HK : Hid (∀ wx : World, Below w.heap.size w wx → wx.cell? ⟨b, 1, none⟩ = some (.int .i64 tk) ∧ wx.cell? ⟨b, 2, none⟩ = some (.int .i64 rf) ∧ wx.cell? ⟨b, 3, none⟩ = some (.bool cl) ∧ wx.cell? ⟨b, 4, none⟩ = some (.slice a al.length cap)) := fun wx hb => have g := (h.below hb).low (w' := w); ⟨g.2.1, g.2.2.1, g.2.2.2.1, g.2.2.2.2⟩
  obtain ⟨X, HX, HoX, hbX, hzX⟩ : ∃ X, Hid (w.alloc (.cells #[.int .i64 0, .int .i64 0, .int .i64 0, .int .i64 0, .int .i64 0] 53) = X) ∧ Hid (Hp X w.heap.size 53 (cntC 0 0 0 0 0)) ∧ Below w.heap.size w X ∧ X.heap.size = w.heap.size + 1 := ⟨_, rfl, Hp.new w _ _, below_allocG _ _, by simp⟩
  obtain ⟨Y, HY, HoY, HiY, hbY⟩ : ∃ Y, Hid (X.alloc (.cells #[.int .i64 0, .int .i64 0, .int .i64 0, .int .i64 0, .int .i64 0] 53) = Y) ∧ Hid (Hp Y w.heap.size 53 (cntC 0 0 0 0 0)) ∧ Hid (Hp Y X.heap.size 53 (cntC 0 0 0 0 0)) ∧ Below w.heap.size w Y := ⟨_, rfl, HoX.out.alloc _, Hp.new X _ _, hbX.trans ((below_allocG X _).mono hbX.size)⟩
  obtain ⟨U, HU, HoU, HiU, hbU⟩ : ∃ U, Hid ((((((Y.setCell ⟨X.heap.size, 0, none⟩ (.int .i64 al.length)).setCell ⟨X.heap.size, 1, none⟩ (.int .i64 rf)).setCell ⟨X.heap.size, 2, none⟩ (.int .i64 tk)).setCell ⟨X.heap.size, 3, none⟩ (.int .i64 0)).setCell ⟨X.heap.size, 4, none⟩ (.int .i64 0)) = U) ∧ Hid (Hp U w.heap.size 53 (cntC 0 0 0 0 0)) ∧ Hid (Hp U X.heap.size 53 (cntC al.length rf tk 0 0)) ∧ Below w.heap.size w U := ⟨_, rfl, HoY.out.chg (Chg.sets Y X.heap.size 0 (cntC al.length rf tk 0 0)) (fun e => by omega), HiY.out.sets (cntC al.length rf tk 0 0) 0, hbY.trans (grown_to_below (grown_sets X.heap.size (cntC al.length rf tk 0 0) Y 0) (by omega) hbY.size)⟩
  obtain ⟨y0, y1, y2, y3, y4, g0, g1, g2, g3, g4⟩ := cnt10 HiY.out
  have hwX := hbX.size
  have n1 : ¬ X.heap.size = w.heap.size := by omega
  have n2 : ¬ w.heap.size = X.heap.size := by omega
  clear h hs hzX
  cases cl with
  | true =>
    go_enter Try.func20, Try.ntmps20
    go_wp2
    rw [HX.out]
    refine wp_region_held_drew (S := fun w' => w'.cell? ⟨b, 1, none⟩ = some (.int .i64 tk) ∧ w'.cell? ⟨b, 2, none⟩ = some (.int .i64 rf) ∧ w'.cell? ⟨b, 3, none⟩ = some (.bool true) ∧ w'.cell? ⟨b, 4, none⟩ = some (.slice a al.length cap)) (by kernel_rfl) (HK.out _ (below_drG hbX)) (fun hHeld => ?_)
    refine tkGo [0, 1, 2, 3, 4, 5, 6, 7, 8, 9, 10, 11, 12, 13] ?_
    repeat (refine tkOne (v := ?_) rfl (by kernel_rfl) (by kernel_rfl) (by kernel_rfl) (fun _ _ _ h => h) (by assumption) (by rfl) ?_ ?_; rotate_left; (intro wy hSw; (try dsimp only at hSw); go_simp; (first | done | with_reducible rfl)); try simp only [Act.put, List.getElem_toArray, List.getElem_cons_zero, List.getElem_cons_succ, List.setIfInBounds_toArray, List.set_cons_zero, List.set_cons_succ])
    refine tkEnd ?_
    refine wpAnyH_ready (rs := [14]) (by kernel_rfl) (by simp) ?_
    refine AllReadyH.cons rfl (fun KK hK => ?_) AllReadyH.nil
    rw [if_pos (by rfl)]
    go_simp
    rw [HY.out]
    refine hK.out _ _ (HK.out _ (below_drG hbY)) (fun hHeld => ?_)
    clear hK KK
    try simp only [Act.put, List.getElem_toArray, List.getElem_cons_zero, List.getElem_cons_succ, List.setIfInBounds_toArray, List.set_cons_zero, List.set_cons_succ]
    refine wpAnyH_ready (rs := [15]) (by kernel_rfl) (by simp) ?_
    refine AllReadyH.cons rfl (fun KK hK => ?_) AllReadyH.nil
    rw [if_pos (by rfl)]
    go_simp
    rw [HU.out]
    refine hK.out _ _ (HK.out _ (below_drG hbU)) (fun hHeld => ?_)
    clear hK KK
    try simp only [Act.put, List.getElem_toArray, List.getElem_cons_zero, List.getElem_cons_succ, List.setIfInBounds_toArray, List.set_cons_zero, List.set_cons_succ]
    refine wpAnyH_done (by kernel_rfl) ?_ _
    clear hHeld y0 y1 y2 y3 y4 g0 g1 g2 g3 g4
    have c3 := (HK.out U hbU).2.2.1
    have hJ : U.cell? ⟨b, 1, none⟩ = some (.int .i64 tk) ∧ U.cell? ⟨b, 4, none⟩ = some (.slice a al.length cap) := ⟨(HK.out U hbU).1, (HK.out U hbU).2.2.2⟩
    have o3 := HiU.out.cell (j := 3) rfl
    have p3 := HiU.out.frozen 3
    obtain ⟨T, HT, HoT, HiT, hbT⟩ : ∃ T, Hid (U.setCell ⟨X.heap.size, 3, none⟩ (.int .i64 (al.length - tk : Int)) = T) ∧ Hid (Hp T w.heap.size 53 (cntC 0 0 0 0 0)) ∧ Hid (Hp T X.heap.size 53 (cntC al.length rf tk (al.length - tk : Int) 0)) ∧ Below w.heap.size w T := ⟨_, rfl, HoU.out.far (by omega), HiU.out.set 3 _, hbU.trans (grown_to_below (grown_set U X.heap.size 3 _) (by omega) hbU.size)⟩
    have hJ5 : (U.setCell ⟨X.heap.size, 3, none⟩ (.int .i64 (al.length - tk : Int))).cell? ⟨b, 1, none⟩ = some (.int .i64 tk) ∧ (U.setCell ⟨X.heap.size, 3, none⟩ (.int .i64 (al.length - tk : Int))).cell? ⟨b, 4, none⟩ = some (.slice a al.length cap) := by rw [HT.out]; exact ⟨(HK.out T hbT).1, (HK.out T hbT).2.2.2⟩
    go_wp2
    go_region_held3 (fun w' => w'.cell? ⟨b, 1, none⟩ = some (.int .i64 tk) ∧ w'.cell? ⟨b, 4, none⟩ = some (.slice a al.length cap)) (first | with_reducible exact hJ | exact hJ5 | exact hJ) (fail)
    have HoT2 := keepG HoT.out.drew
    obtain ⟨x0, x1, x2, x3, x4, h0, h1, h2, h3, h4⟩ := cnt10 HoT.out
    obtain ⟨i0, i1, i2, i3, i4, _⟩ := cnt10 HiT.out
    rw [HT.out]
    go_wp2
    exact cnt_end (n := 2) HoT.out hbT rfl rfl rfl
  | false =>
    go_enter Try.func20, Try.ntmps20
    go_wp2
    rw [HX.out]
    refine wp_region_held_drew (S := fun w' => w'.cell? ⟨b, 1, none⟩ = some (.int .i64 tk) ∧ w'.cell? ⟨b, 2, none⟩ = some (.int .i64 rf) ∧ w'.cell? ⟨b, 3, none⟩ = some (.bool false) ∧ w'.cell? ⟨b, 4, none⟩ = some (.slice a al.length cap)) (by kernel_rfl) (HK.out _ (below_drG hbX)) (fun hHeld => ?_)
    refine tkGo [0, 1, 2, 3, 4, 5, 6, 7, 8, 9, 10, 11, 12, 13] ?_
    repeat (refine tkOne (v := ?_) rfl (by kernel_rfl) (by kernel_rfl) (by kernel_rfl) (fun _ _ _ h => h) (by assumption) (by rfl) ?_ ?_; rotate_left; (intro wy hSw; (try dsimp only at hSw); go_simp; (first | done | with_reducible rfl)); try simp only [Act.put, List.getElem_toArray, List.getElem_cons_zero, List.getElem_cons_succ, List.setIfInBounds_toArray, List.set_cons_zero, List.set_cons_succ])
    refine tkEnd ?_
    refine wpAnyH_ready (rs := [14]) (by kernel_rfl) (by simp) ?_
    refine AllReadyH.cons rfl (fun KK hK => ?_) AllReadyH.nil
    rw [if_pos (by rfl)]
    go_simp
    rw [HY.out]
    refine hK.out _ _ (HK.out _ (below_drG hbY)) (fun hHeld => ?_)
    clear hK KK
    try simp only [Act.put, List.getElem_toArray, List.getElem_cons_zero, List.getElem_cons_succ, List.setIfInBounds_toArray, List.set_cons_zero, List.set_cons_succ]
    refine wpAnyH_ready (rs := [15]) (by kernel_rfl) (by simp) ?_
    refine AllReadyH.cons rfl (fun KK hK => ?_) AllReadyH.nil
    rw [if_pos (by rfl)]
    go_simp
    rw [HU.out]
    refine hK.out _ _ (HK.out _ (below_drG hbU)) (fun hHeld => ?_)
    clear hK KK
    try simp only [Act.put, List.getElem_toArray, List.getElem_cons_zero, List.getElem_cons_succ, List.setIfInBounds_toArray, List.set_cons_zero, List.set_cons_succ]
    refine wpAnyH_done (by kernel_rfl) ?_ _
    clear hHeld y0 y1 y2 y3 y4 g0 g1 g2 g3 g4
    have c3 := (HK.out U hbU).2.2.1
    have hJ : U.cell? ⟨b, 1, none⟩ = some (.int .i64 tk) ∧ U.cell? ⟨b, 4, none⟩ = some (.slice a al.length cap) := ⟨(HK.out U hbU).1, (HK.out U hbU).2.2.2⟩
    have o4 := HiU.out.cell (j := 4) rfl
    have p4 := HiU.out.frozen 4
    obtain ⟨T, HT, HoT, HiT, hbT⟩ : ∃ T, Hid (U.setCell ⟨X.heap.size, 4, none⟩ (.int .i64 (al.length - tk : Int)) = T) ∧ Hid (Hp T w.heap.size 53 (cntC 0 0 0 0 0)) ∧ Hid (Hp T X.heap.size 53 (cntC al.length rf tk 0 (al.length - tk : Int))) ∧ Below w.heap.size w T := ⟨_, rfl, HoU.out.far (by omega), HiU.out.set 4 _, hbU.trans (grown_to_below (grown_set U X.heap.size 4 _) (by omega) hbU.size)⟩
    have hJ5 : (U.setCell ⟨X.heap.size, 4, none⟩ (.int .i64 (al.length - tk : Int))).cell? ⟨b, 1, none⟩ = some (.int .i64 tk) ∧ (U.setCell ⟨X.heap.size, 4, none⟩ (.int .i64 (al.length - tk : Int))).cell? ⟨b, 4, none⟩ = some (.slice a al.length cap) := by rw [HT.out]; exact ⟨(HK.out T hbT).1, (HK.out T hbT).2.2.2⟩
    go_wp2
    go_region_held3 (fun w' => w'.cell? ⟨b, 1, none⟩ = some (.int .i64 tk) ∧ w'.cell? ⟨b, 4, none⟩ = some (.slice a al.length cap)) (first | with_reducible exact hJ | exact hJ5 | exact hJ) (fail)
    have HoT2 := keepG HoT.out.drew
    obtain ⟨x0, x1, x2, x3, x4, h0, h1, h2, h3, h4⟩ := cnt10 HoT.out
    obtain ⟨i0, i1, i2, i3, i4, _⟩ := cnt10 HiT.out
    rw [HT.out]
    go_wp2
    exact cnt_end (n := 2) HoT.out hbT rfl rfl rfl
end
end Go.Proofs.Ythcdfknadcdfkaa
