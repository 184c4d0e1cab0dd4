
/-
  What the document's broad does: an entry with one field of 64 bits set. Condition: the letter is a byte.
-/
import Derived.Test.YtbfbfbbpajaclaaDoorR26F
import Derived.Test.YtbfbfbbpajaclaaDoorX26Read
namespace Go.Proofs.YtbfbfbbpajaclaaDoor
open Go.RowKit
set_option linter.unusedVariables false
set_option linter.unusedSimpArgs false
set_option maxRecDepth 100000
theorem sizeEnA (e : En) : (Tryd.prog.info? 36).map (·.size) = some (enC e).toArray.size := by
  rw [show (enC e).toArray.size = 22 from rfl]; kernel_rfl
theorem oneEn (e : En) : (enC e).toArray.all (·.oneCell') = true := all_oneCell_toArray (fun v hv => by
  simp only [List.mem_cons, List.not_mem_nil, or_false] at hv
  rcases hv with rfl | rfl | rfl | rfl | rfl | rfl | rfl | rfl | rfl | rfl | rfl | rfl | rfl | rfl | rfl | rfl | rfl | rfl | rfl | rfl | rfl | rfl <;> rfl)
theorem thereEn {w : World} {n : Nat} {e e' : En} (h : Hp w n 36 (enC e)) : w.there n 0 (enC e').toArray.size := h.there (by simp)
theorem setsEn {w : World} {n : Nat} {e : En} (e' : En) (h : Hp w n 36 (enC e)) : Hp (w.setCells n 0 (enC e').toArray.toList) n 36 (enC e') := by
  have hs := h.sets (enC e') 0
  rw [splice_all (enC e') (enC e) rfl] at hs
  exact hs
theorem results_en1 {fn : Func} {p : Tmp} {ty : TypeId} (h : fn.results = #[.cell p ty]) (tmps : Array Value) (P : Program) (w : World) :
    (results fn tmps).run P w = ((asAddr (tmps.getD p undef)).run P w).andThen fun a w₁ => (loadVar ty a).run P w₁ := by
  simp only [results, h]
  simp [Sem.run_bind, Result.andThen]
theorem run_boxEn {w : World} {n : Nat} {e : En} (h : Hp w n 36 (enC e)) : (loadVar 36 ⟨n, 0, none⟩).run Tryd.prog w = .ok (enV e) w :=
  run_loadVar_mid w n 0 36 (enC e) _ (enAt h) Tryd.underlying36 rfl (sizeEn e)
theorem en_ret {fn : Func} {p : Tmp} {w2 : World} {n : Nat} {tmps : Array Value} {e : En} {Q : Ending → World → Prop} (hr : fn.results = #[.cell p 36]) (hp : tmps.getD p undef = .pointer (some ⟨n, 0, none⟩)) (hx : Hp w2 n 36 (enC e)) (hQ : Q (.returned (enV e)) w2) : bodyPost Tryd.prog fn Q .ret ⟨tmps, []⟩ w2 := by
  refine bodyPost_ret (v := enV e) ?_ rfl hQ
  rw [results_en1 hr, hp]
  simp only [asAddr, Sem.run_pure, Result.andThen]
  rw [run_boxEn hx]
/-- Two boxes: an entry's, and one of zeros. -/
theorem box_two (w : World) (e : En) : ∃ X Z, Hid (w.alloc (.cells (enC e).toArray 36) = X) ∧ Hid (X.alloc (.cells (enC En.nil).toArray 36) = Z) ∧ Hid (Hp Z w.heap.size 36 (enC e)) ∧ Hid (Hp Z (w.heap.size + 1) 36 (enC En.nil)) ∧ Hid (Below w.heap.size w Z) ∧ Hid (X.heap.size = w.heap.size + 1) := by
  have h1 := Hp.new w (enC e) 36
  have hz : (w.alloc (.cells (enC e).toArray 36)).heap.size = w.heap.size + 1 := by simp
  refine ⟨_, _, rfl, rfl, h1.alloc _, ?_, (below_allocG w _).alloc (by simp) _, hz⟩
  have h2 := Hp.new (w.alloc (.cells (enC e).toArray 36)) (enC En.nil) 36
  rw [hz] at h2
  exact h2
/-- A field of the first box set, then the whole laid into the second one. -/
theorem two_copy {w Z : World} {e e' : En} {j : Nat} {v : Value} (h1 : Hp Z w.heap.size 36 (enC e)) (h2 : Hp Z (w.heap.size + 1) 36 (enC En.nil)) (hb : Below w.heap.size w Z) (he : (enC e).set j v = enC e') : ∃ Y U, Hid (Z.setCell ⟨w.heap.size, j, none⟩ v = Y) ∧ Hid (Y.setCells (w.heap.size + 1) 0 (enC e').toArray.toList = U) ∧ Hid (Hp Y w.heap.size 36 (enC e')) ∧ Hid (Hp Y (w.heap.size + 1) 36 (enC En.nil)) ∧ Hid (Hp U (w.heap.size + 1) 36 (enC e')) ∧ Hid (Below w.heap.size w U) := by
  have hc := Chg.set Z w.heap.size j v
  have h3 := h1.set j v
  rw [he] at h3
  have h4 := h2.chg hc (fun e => by have e : w.heap.size + 1 = w.heap.size := e; omega)
  refine ⟨_, _, rfl, rfl, h3, h4, setsEn e' h4, ?_⟩
  exact (hb.trans (grown_to_below (grown_set Z w.heap.size j v) (Nat.le_refl _) hb.size)).trans (grown_to_below (grown_sets (w.heap.size + 1) (enC e').toArray.toList _ 0) (by omega) (by have := h3.lt; omega))
/-- The first box laid into the second one. -/
theorem one_copy {w Z : World} {e : En} (h1 : Hp Z w.heap.size 36 (enC e)) (h2 : Hp Z (w.heap.size + 1) 36 (enC En.nil)) (hb : Below w.heap.size w Z) : ∃ U, Hid (Z.setCells (w.heap.size + 1) 0 (enC e).toArray.toList = U) ∧ Hid (Hp U (w.heap.size + 1) 36 (enC e)) ∧ Hid (Below w.heap.size w U) := by
  refine ⟨_, rfl, setsEn e h2, ?_⟩
  exact hb.trans (grown_to_below (grown_sets (w.heap.size + 1) (enC e).toArray.toList _ 0) (by omega) hb.size)
set_option maxHeartbeats 6400000 in
theorem broad26 (e : En) (c : Nat) (n : Int) (w : World) (hc : c < 256) : Calls Tryd.prog 64 #[enV e, .int .u8 c, .int .u64 n] w fun r w' => r = .returned (enV (brE e c n)) ∧ Below w.heap.size w w' := by
  obtain ⟨X, Z, HX, HZ, H1, H2, HB, HZX⟩ := box_two w e
  have HX := HX.out
  dsimp only [enC] at HX
  have HX := keepG HX
  have HZ := HZ.out
  dsimp only [enC, En.nil] at HZ
  have HZ := keepG HZ
  have hzx := HZX.out
  unfold enV
  by_cases k0 : c = 110
  · subst k0
    obtain ⟨Y, U, HY, HU, H3, H4, H5, HBU⟩ := two_copy (e' := { e with va := n }) (j := 20) (v := .int .u64 n) H1.out H2.out HB.out rfl
    have c3 := H1.out.cell (j := 20) rfl
    have f3 := H1.out.frozen 20
    go_enter Tryd.func64, Tryd.ntmps64
    go_wp2_with (first
      | (rw [HX.out])
      | (rw [HZ.out])
      | (rw [HY.out])
      | ((with_reducible refine wpList_load_mid ?_ 36 (.tmp 3) ?_ w.heap.size 0 ?_ (enC { e with va := n }) _ (enAt H3.out) Tryd.underlying36 ?_ (sizeEn _) ?_); rfl; rfl; rfl; rfl)
      | ((with_reducible refine wpList_store_mid ?_ 36 (.tmp 6) (.tmp 37) ?_ (w.heap.size + 1) 0 (enC { e with va := n }).toArray ?_ ?_ (thereEn H4.out) (sizeEnA _) (oneEn _) ?_); rfl; rfl; rfl; rfl)
      | (rw [HU.out]))
    refine en_ret (n := w.heap.size + 1) (e := { e with va := n }) rfl rfl H5.out ?_
    exact ⟨rfl, HBU.out⟩
  have d0 : ((c : Int) == 110) = false := by simp; omega
  by_cases k1 : c = 107
  · subst k1
    obtain ⟨Y, U, HY, HU, H3, H4, H5, HBU⟩ := two_copy (e' := { e with ky := n }) (j := 12) (v := .int .u64 n) H1.out H2.out HB.out rfl
    have c3 := H1.out.cell (j := 12) rfl
    have f3 := H1.out.frozen 12
    go_enter Tryd.func64, Tryd.ntmps64
    go_wp2_with (first
      | (rw [HX.out])
      | (rw [HZ.out])
      | (rw [HY.out])
      | ((with_reducible refine wpList_load_mid ?_ 36 (.tmp 3) ?_ w.heap.size 0 ?_ (enC { e with ky := n }) _ (enAt H3.out) Tryd.underlying36 ?_ (sizeEn _) ?_); rfl; rfl; rfl; rfl)
      | ((with_reducible refine wpList_store_mid ?_ 36 (.tmp 6) (.tmp 37) ?_ (w.heap.size + 1) 0 (enC { e with ky := n }).toArray ?_ ?_ (thereEn H4.out) (sizeEnA _) (oneEn _) ?_); rfl; rfl; rfl; rfl)
      | (rw [HU.out]))
    refine en_ret (n := w.heap.size + 1) (e := { e with ky := n }) rfl rfl H5.out ?_
    exact ⟨rfl, HBU.out⟩
  have d1 : ((c : Int) == 107) = false := by simp; omega
  by_cases k2 : c = 119
  · subst k2
    obtain ⟨Y, U, HY, HU, H3, H4, H5, HBU⟩ := two_copy (e' := { e with vl := n }) (j := 13) (v := .int .u64 n) H1.out H2.out HB.out rfl
    have c3 := H1.out.cell (j := 13) rfl
    have f3 := H1.out.frozen 13
    go_enter Tryd.func64, Tryd.ntmps64
    go_wp2_with (first
      | (rw [HX.out])
      | (rw [HZ.out])
      | (rw [HY.out])
      | ((with_reducible refine wpList_load_mid ?_ 36 (.tmp 3) ?_ w.heap.size 0 ?_ (enC { e with vl := n }) _ (enAt H3.out) Tryd.underlying36 ?_ (sizeEn _) ?_); rfl; rfl; rfl; rfl)
      | ((with_reducible refine wpList_store_mid ?_ 36 (.tmp 6) (.tmp 37) ?_ (w.heap.size + 1) 0 (enC { e with vl := n }).toArray ?_ ?_ (thereEn H4.out) (sizeEnA _) (oneEn _) ?_); rfl; rfl; rfl; rfl)
      | (rw [HU.out]))
    refine en_ret (n := w.heap.size + 1) (e := { e with vl := n }) rfl rfl H5.out ?_
    exact ⟨rfl, HBU.out⟩
  have d2 : ((c : Int) == 119) = false := by simp; omega
  by_cases k3 : c = 114
  · subst k3
    obtain ⟨Y, U, HY, HU, H3, H4, H5, HBU⟩ := two_copy (e' := { e with rv := n }) (j := 16) (v := .int .u64 n) H1.out H2.out HB.out rfl
    have c3 := H1.out.cell (j := 16) rfl
    have f3 := H1.out.frozen 16
    go_enter Tryd.func64, Tryd.ntmps64
    go_wp2_with (first
      | (rw [HX.out])
      | (rw [HZ.out])
      | (rw [HY.out])
      | ((with_reducible refine wpList_load_mid ?_ 36 (.tmp 3) ?_ w.heap.size 0 ?_ (enC { e with rv := n }) _ (enAt H3.out) Tryd.underlying36 ?_ (sizeEn _) ?_); rfl; rfl; rfl; rfl)
      | ((with_reducible refine wpList_store_mid ?_ 36 (.tmp 6) (.tmp 37) ?_ (w.heap.size + 1) 0 (enC { e with rv := n }).toArray ?_ ?_ (thereEn H4.out) (sizeEnA _) (oneEn _) ?_); rfl; rfl; rfl; rfl)
      | (rw [HU.out]))
    refine en_ret (n := w.heap.size + 1) (e := { e with rv := n }) rfl rfl H5.out ?_
    exact ⟨rfl, HBU.out⟩
  have d3 : ((c : Int) == 114) = false := by simp; omega
  by_cases k4 : c = 79
  · subst k4
    obtain ⟨Y, U, HY, HU, H3, H4, H5, HBU⟩ := two_copy (e' := { e with ok := n }) (j := 18) (v := .int .u64 n) H1.out H2.out HB.out rfl
    have c3 := H1.out.cell (j := 18) rfl
    have f3 := H1.out.frozen 18
    go_enter Tryd.func64, Tryd.ntmps64
    go_wp2_with (first
      | (rw [HX.out])
      | (rw [HZ.out])
      | (rw [HY.out])
      | ((with_reducible refine wpList_load_mid ?_ 36 (.tmp 3) ?_ w.heap.size 0 ?_ (enC { e with ok := n }) _ (enAt H3.out) Tryd.underlying36 ?_ (sizeEn _) ?_); rfl; rfl; rfl; rfl)
      | ((with_reducible refine wpList_store_mid ?_ 36 (.tmp 6) (.tmp 37) ?_ (w.heap.size + 1) 0 (enC { e with ok := n }).toArray ?_ ?_ (thereEn H4.out) (sizeEnA _) (oneEn _) ?_); rfl; rfl; rfl; rfl)
      | (rw [HU.out]))
    refine en_ret (n := w.heap.size + 1) (e := { e with ok := n }) rfl rfl H5.out ?_
    exact ⟨rfl, HBU.out⟩
  have d4 : ((c : Int) == 79) = false := by simp; omega
  by_cases k5 : c = 86
  · subst k5
    obtain ⟨Y, U, HY, HU, H3, H4, H5, HBU⟩ := two_copy (e' := { e with ov := n }) (j := 19) (v := .int .u64 n) H1.out H2.out HB.out rfl
    have c3 := H1.out.cell (j := 19) rfl
    have f3 := H1.out.frozen 19
    go_enter Tryd.func64, Tryd.ntmps64
    go_wp2_with (first
      | (rw [HX.out])
      | (rw [HZ.out])
      | (rw [HY.out])
      | ((with_reducible refine wpList_load_mid ?_ 36 (.tmp 3) ?_ w.heap.size 0 ?_ (enC { e with ov := n }) _ (enAt H3.out) Tryd.underlying36 ?_ (sizeEn _) ?_); rfl; rfl; rfl; rfl)
      | ((with_reducible refine wpList_store_mid ?_ 36 (.tmp 6) (.tmp 37) ?_ (w.heap.size + 1) 0 (enC { e with ov := n }).toArray ?_ ?_ (thereEn H4.out) (sizeEnA _) (oneEn _) ?_); rfl; rfl; rfl; rfl)
      | (rw [HU.out]))
    refine en_ret (n := w.heap.size + 1) (e := { e with ov := n }) rfl rfl H5.out ?_
    exact ⟨rfl, HBU.out⟩
  have d5 : ((c : Int) == 86) = false := by simp; omega
  have HE : Hid (brE e c n = e) := by
    show _ = _
    unfold brE
    rw [if_neg k0, if_neg k1, if_neg k2, if_neg k3, if_neg k4, if_neg k5]
  clear k0 k1 k2 k3 k4 k5
  obtain ⟨U, HU, H5, HBU⟩ := one_copy H1.out H2.out HB.out
  go_enter Tryd.func64, Tryd.ntmps64
  go_wp2_with (first
    | (rw [HX.out])
    | (rw [HZ.out])
    | ((with_reducible refine wpList_load_mid ?_ 36 (.tmp 3) ?_ w.heap.size 0 ?_ (enC e) _ (enAt H1.out) Tryd.underlying36 ?_ (sizeEn _) ?_); rfl; rfl; rfl; rfl)
    | ((with_reducible refine wpList_store_mid ?_ 36 (.tmp 6) (.tmp 37) ?_ (w.heap.size + 1) 0 (enC e).toArray ?_ ?_ (thereEn H2.out) (sizeEnA _) (oneEn _) ?_); rfl; rfl; rfl; rfl)
    | (rw [HU.out]))
  refine en_ret (n := w.heap.size + 1) (e := e) rfl rfl H5.out ?_
  exact ⟨by rw [HE.out]; rfl, HBU.out⟩
end Go.Proofs.YtbfbfbbpajaclaaDoor
