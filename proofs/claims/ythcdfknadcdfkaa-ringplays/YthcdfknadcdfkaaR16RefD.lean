
/-
  The document's ring of layer 16: Take. Condition: it lies where the pointer says, its row is the call's own.
-/
import Derived.Test.YthcdfknadcdfkaaTk
import Derived.Test.YthcdfknadcdfkaaR16RefC
namespace Go.Proofs.Ythcdfknadcdfkaa
open Go.RowKit
set_option linter.unusedVariables false
set_option linter.unusedSimpArgs false
set_option maxRecDepth 100000
theorem infoQe : (Try.prog.info? 46).map (fun i => (i.zero, i.size, i.bytes)) = some (some (.agg #[.int .i64 0, .int .u64 0, .int .u64 0]), 3, 24) := by kernel_rfl
theorem run_boxQ {w : World} {n : Nat} {q : Qe} (h : Hp w n 46 (qeC q)) : (loadVar 46 ⟨n, 0, none⟩).run Try.prog w = .ok (qeV q) w := by
  refine run_loadVar_mid w n 0 46 (qeC q) _ ?_ Try.underlying46 rfl (by kernel_rfl)
  intro j x hx
  rw [Nat.zero_add]
  exact h.cell hx
theorem results_cell_tmpK {fn : Func} {p u : Tmp} {ty : TypeId} (h : fn.results = #[.cell p ty, .tmp u]) (tmps : Array Value) (P : Program) (w : World) :
    (results fn tmps).run P w = ((asAddr (tmps.getD p undef)).run P w).andThen fun a w₁ => ((loadVar ty a).run P w₁).andThen fun x w₂ => .ok (.tuple #[x, tmps.getD u undef]) w₂ := by
  simp only [results, h]
  simp [Sem.run_bind, Result.andThen]
theorem que_ret {fn : Func} {p u : Tmp} {w2 : World} {n : Nat} {tmps : Array Value} {q : Qe} {o : Bool} {Q : Ending → World → Prop} (hr : fn.results = #[.cell p 46, .tmp u]) (hp : tmps.getD p undef = .pointer (some ⟨n, 0, none⟩)) (hu : tmps.getD u undef = .bool o) (hx : Hp w2 n 46 (qeC q)) (hQ : Q (.returned (.tuple #[qeV q, .bool o])) w2) : bodyPost Try.prog fn Q .ret ⟨tmps, []⟩ w2 := by
  refine bodyPost_ret (v := .tuple #[qeV q, .bool o]) ?_ rfl hQ
  rw [results_cell_tmpK hr, hp, hu]
  simp only [asAddr, Sem.run_pure, Result.andThen]
  rw [run_boxQ hx]
section
variable {w : World} {B b : Nat} {v : Value}
set_option maxHeartbeats 3200000 in
theorem kTake_no {r : Rg} (h : Rk w B b v r) (ht : r.taken ≤ r.all.length) (hw : r.waits = []) : Calls Try.prog 13 #[.pointer (some ⟨b, 0, none⟩)] w fun e w' => e = .returned (.tuple #[qeV Qe.nil, .bool false]) ∧ Below w.heap.size w w' := by
  obtain ⟨X, HX, HoX, hbX⟩ : ∃ X, Hid (w.alloc (.cells #[.int .i64 0, .int .u64 0, .int .u64 0] 46) = X) ∧ Hid (Hp X w.heap.size 46 (qeC Qe.nil)) ∧ Below w.heap.size w X := ⟨_, rfl, Hp.new w _ _, below_allocG _ _⟩
  have HR := keepG (h.below hbX)
  go_enter Try.func13, Try.ntmps13
  go_wp2_with (go_at_call 18; rw [HX.out]; go_must (refine (kWaits_any HR.out ht).mono ?_); rintro e w1 ⟨u, k, rfl, hs, rfl⟩; go_must (rw [hw] at hs; obtain ⟨ua, uc, rfl, _, _⟩ := hs.shape; have HoK := keepG (show Hp (X.drewN k) w.heap.size 46 (qeC Qe.nil) from HoX.out); have c0 := HoK.out.cell (j := 0) rfl; have c1 := HoK.out.cell (j := 1) rfl; have c2 := HoK.out.cell (j := 2) rfl; have f0 := HoK.out.frozen 0; have f1 := HoK.out.frozen 1; have f2 := HoK.out.frozen 2; clear hs))
  have hb : Below w.heap.size w ((X.drewN k).setCells w.heap.size 0 (qeC Qe.nil)) := (⟨hbX.os, hbX.tape, hbX.output, hbX.size, hbX.block⟩ : Below w.heap.size w (X.drewN k)).trans (grown_to_below (grown_sets w.heap.size (qeC Qe.nil) (X.drewN k) 0) (Nat.le_refl _) hbX.size)
  exact que_ret rfl rfl rfl (HoK.out.sets (qeC Qe.nil) 0) ⟨rfl, hb⟩
set_option maxHeartbeats 3200000 in
theorem kTake_yes {rm tk rf : Nat} {al : List Qe} (h : Rk w B b v ⟨rm, tk, rf, false, al⟩) (ht : tk < al.length) (hm : al.length ≤ 1000000000000000) : Calls Try.prog 13 #[.pointer (some ⟨b, 0, none⟩)] w fun e w' => e = .returned (.tuple #[qeV (al.getD tk Qe.nil), .bool true]) ∧ Rk w' B b v ⟨rm, tk + 1, rf, false, al⟩ ∧ Chg w w' (fun k => k = b) := by
  obtain ⟨X, HX, HoX, hbX⟩ : ∃ X, Hid (w.alloc (.cells #[.int .i64 0, .int .u64 0, .int .u64 0] 46) = X) ∧ Hid (Hp X w.heap.size 46 (qeC Qe.nil)) ∧ Below w.heap.size w X := ⟨_, rfl, Hp.new w _ _, below_allocG _ _⟩
  have hlt := h.hp.lt
  have HR := keepG (h.below hbX)
  have hwl : ¬ (((⟨rm, tk, rf, false, al⟩ : Rg).waits.length : Nat) : Int) = 0 := by
    have e : (⟨rm, tk, rf, false, al⟩ : Rg).waits.length = al.length - tk := Rg.waits_len
    rw [e]; omega
  obtain ⟨wl, HWl⟩ : ∃ wl : Nat, Hid ((⟨rm, tk, rf, false, al⟩ : Rg).waits.length = wl) := ⟨_, rfl⟩
  rw [HWl.out] at hwl
  have hwb : ((wl : Int) == 0) = false := by simpa using hwl
  have htI : (tk : Int) < al.length := by omega
  have ht2 : (tk : Int) ≤ 1000000000000000 := by omega
  have hwr : IntKind.i64.wrap ((tk : Int) + 1 - 1) = tk := by rw [IntKind.wrap_i64]; omega
  have hwr0 : IntKind.i64.wrap (tk : Int) = tk := by rw [IntKind.wrap_i64]; omega
  have htN : ¬ (tk : Int) < 0 := by omega
  have htL : ¬ (al.length : Int) ≤ tk := by omega
  obtain ⟨⟨qn, qa, qb⟩, HQ⟩ : ∃ q, Hid (al.getD tk Qe.nil = q) := ⟨_, rfl⟩
  rw [HQ.out]
  obtain ⟨g, cap, rfl, hgB, hgl, hgc, hcm, hat⟩ := own_atG qeC_len Qe.nil h.row (by show 0 < al.length; omega)
  simp only at hgc hat
  have d0 := (hat tk ht 0 (by omega)).1
  have d1 := (hat tk ht 1 (by omega)).1
  have d2 := (hat tk ht 2 (by omega)).1
  rw [HQ.out] at d0 d1 d2
  simp only [List.getElem?_cons_zero, List.getElem?_cons_succ, Nat.add_zero] at d0 d1 d2
  have hgb : ¬ g = b := fun e => h.apart (by rw [e]; rfl)
  have HD : Hid (∀ wx : World, Chg w wx (fun k => k = b) → wx.cell? ⟨g, tk * 3, none⟩ = some (.int .i64 qn) ∧ wx.cell? ⟨g, tk * 3 + 1, none⟩ = some (.int .u64 qa) ∧ wx.cell? ⟨g, tk * 3 + 2, none⟩ = some (.int .u64 qb)) := fun wx hc => ⟨(World.cell?_of_block (hc.block g hgl hgb)).trans d0, (World.cell?_of_block (hc.block g hgl hgb)).trans d1, (World.cell?_of_block (hc.block g hgl hgb)).trans d2⟩
  have hcap : al.length ≤ cap := hgc
  have hcm' : cap ≤ 9223372036854775807 := hcm
  clear h hat d0 d1 d2
  go_enter Try.func13, Try.ntmps13
  go_wp2_with (go_at_call 18; rw [HX.out]; go_must (refine (kWaits_any HR.out (Nat.le_of_lt ht)).mono ?_); rintro e w1 ⟨u, k, rfl, hs, rfl⟩; go_must (obtain ⟨ua, uc, rfl, _, _⟩ := hs.shape; rw [HWl.out]; have HR1 := keepG (HR.out.drewN k); have c1 := HR1.out.hp.cell (j := 1) rfl; have f1 := HR1.out.hp.frozen 1; clear hs))
  obtain ⟨Y, HY, HRY, HoY, hcY⟩ : ∃ Y, Hid ((X.drewN k).setCell ⟨b, 1, none⟩ (.int .i64 ((tk : Int) + 1)) = Y) ∧ Hid (Rk Y B b (.slice (some ⟨g, 0, none⟩) al.length cap) ⟨rm, tk + 1, rf, false, al⟩) ∧ Hid (Hp Y w.heap.size 46 (qeC Qe.nil)) ∧ Chg w Y (fun k => k = b) := ⟨_, rfl, HR1.out.set 1 _ rfl rfl rfl, (show Hp (X.drewN k) w.heap.size 46 (qeC Qe.nil) from HoX.out).far (by omega), ((Chg.of_below (S := fun k => k = b) hbX).drewN k).trans (Chg.set _ b 1 _) (fun _ _ e => e)⟩
  rw [HY.out]
  have hS0 : Y.cell? ⟨b, 1, none⟩ = some (.int .i64 ((tk : Int) + 1)) ∧ Y.cell? ⟨b, 4, none⟩ = some (.slice (some ⟨g, 0, none⟩) al.length cap) ∧ Y.cell? ⟨g, tk * 3, none⟩ = some (.int .i64 qn) ∧ Y.cell? ⟨g, tk * 3 + 1, none⟩ = some (.int .u64 qa) ∧ Y.cell? ⟨g, tk * 3 + 2, none⟩ = some (.int .u64 qb) := ⟨HRY.out.hp.cell rfl, HRY.out.hp.cell rfl, HD.out Y hcY⟩
  have c0 := HoY.out.cell (j := 0) rfl
  have c2 := HoY.out.cell (j := 1) rfl
  have c3 := HoY.out.cell (j := 2) rfl
  have f0 := HoY.out.frozen 0
  have f2 := HoY.out.frozen 1
  have f3 := HoY.out.frozen 2
  obtain ⟨U, HU, HRU, HoU, hcU⟩ : ∃ U, Hid (((Y.setCell ⟨w.heap.size, 0, none⟩ (.int .i64 qn)).setCell ⟨w.heap.size, 1, none⟩ (.int .u64 qa)).setCell ⟨w.heap.size, 2, none⟩ (.int .u64 qb) = U) ∧ Hid (Rk U B b (.slice (some ⟨g, 0, none⟩) al.length cap) ⟨rm, tk + 1, rf, false, al⟩) ∧ Hid (Hp U w.heap.size 46 (qeC ⟨qn, qa, qb⟩)) ∧ Chg w U (fun k => k = b) := ⟨_, rfl, HRY.out.chg (Chg.sets Y w.heap.size 0 (qeC ⟨qn, qa, qb⟩)) (fun e => by omega) (fun k hk e => by have := Option.some.inj (show some g = some k from hk); omega), HoY.out.sets (qeC ⟨qn, qa, qb⟩) 0, hcY.trans (Chg.sets Y w.heap.size 0 (qeC ⟨qn, qa, qb⟩)) (fun k hk e => by omega)⟩
  have hS1 : U.cell? ⟨b, 1, none⟩ = some (.int .i64 ((tk : Int) + 1)) ∧ U.cell? ⟨b, 4, none⟩ = some (.slice (some ⟨g, 0, none⟩) al.length cap) ∧ U.cell? ⟨g, tk * 3, none⟩ = some (.int .i64 qn) ∧ U.cell? ⟨g, tk * 3 + 1, none⟩ = some (.int .u64 qa) ∧ U.cell? ⟨g, tk * 3 + 2, none⟩ = some (.int .u64 qb) := ⟨HRU.out.hp.cell rfl, HRU.out.hp.cell rfl, HD.out U hcU⟩
  refine wp_region_held_drew (S := fun w' => w'.cell? ⟨b, 1, none⟩ = some (.int .i64 ((tk : Int) + 1)) ∧ w'.cell? ⟨b, 4, none⟩ = some (.slice (some ⟨g, 0, none⟩) al.length cap) ∧ w'.cell? ⟨g, tk * 3, none⟩ = some (.int .i64 qn) ∧ w'.cell? ⟨g, tk * 3 + 1, none⟩ = some (.int .u64 qa) ∧ w'.cell? ⟨g, tk * 3 + 2, none⟩ = some (.int .u64 qb)) (by kernel_rfl) hS0 (fun hHeld => ?_)
  refine tkGo [0, 1, 2, 3, 4, 5, 6, 7, 8, 9, 10] ?_
  repeat (refine tkOne (v := ?_) rfl (by kernel_rfl) (by kernel_rfl) (by kernel_rfl) (fun _ _ _ h => h) (by assumption) (by rfl) ?_ ?_; rotate_left; (intro wy hSw; (try dsimp only at hSw); go_simp; (first | done | with_reducible rfl)); try simp only [Act.put, List.getElem_toArray, List.getElem_cons_zero, List.getElem_cons_succ, List.setIfInBounds_toArray, List.set_cons_zero, List.set_cons_succ])
  refine tkEnd ?_
  refine wpAnyH_ready (rs := [11]) (by kernel_rfl) (by simp) ?_
  refine AllReadyH.cons rfl (fun KK hK => ?_) AllReadyH.nil
  rw [if_pos (by rfl)]
  go_simp
  rw [HU.out]
  refine hK.out _ _ hS1 (fun hHeld => ?_)
  clear hK KK
  try simp only [Act.put, List.getElem_toArray, List.getElem_cons_zero, List.getElem_cons_succ, List.setIfInBounds_toArray, List.set_cons_zero, List.set_cons_succ]
  refine tkGo [12] ?_
  repeat (refine tkOne (v := ?_) rfl (by kernel_rfl) (by kernel_rfl) (by kernel_rfl) (fun _ _ _ h => h) (by assumption) (by rfl) ?_ ?_; rotate_left; (intro wy hSw; (try dsimp only at hSw); go_simp; (first | done | with_reducible rfl)); try simp only [Act.put, List.getElem_toArray, List.getElem_cons_zero, List.getElem_cons_succ, List.setIfInBounds_toArray, List.set_cons_zero, List.set_cons_succ])
  refine tkEnd ?_
  refine wpAnyH_done (by kernel_rfl) ?_ _
  clear hHeld
  go_wp2
  exact que_ret rfl rfl rfl HoU.out.drew ⟨rfl, ⟨HRU.out.hp, HRU.out.row⟩, hcU.drewN 1⟩
end
end Go.Proofs.Ythcdfknadcdfkaa
