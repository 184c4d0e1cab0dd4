
/-
  The document's ring of layer 16: Accept. Condition: it lies where the pointer says, its row is the call's own.
-/
import Derived.Test.YthcdfknadcdfkaaTk
import Derived.Test.YthcdfknadcdfkaaR16RefD
namespace Go.Proofs.Ythcdfknadcdfkaa
open Go.RowKit
set_option linter.unusedVariables false
set_option linter.unusedSimpArgs false
set_option maxRecDepth 100000
/-- Appending to a row of the call's own, as one operation: it lies where it lay or in new memory. -/
theorem wp_append_at {P : Program} (w : World) {o : Oper} {a : Act} {K : Act → World → Prop} {Q : Exit → Act → World → Prop} (s x : Operand) (t : TypeId)
    (ho : o.op = .call { callee := .builtin .append, args := #[s, x], argTypes := #[t, t] })
    (base : Nat) (e : TypeId) (i : TypeInfo) (z : Value) (size bytes : Nat) (ht : P.underlying t = some (.slice e)) (hi : P.info? e = some i) (hz : i.zero = some z)
    (hsize : i.size = size) (hby : i.bytes = bytes) (hzs : z.cells.size = size) (hsz : 0 < size)
    (v : Value) (n : Nat) (xs : List Value) (hs : a.eval s = v) (hown : w.ownsRow base e size v n xs)
    (ad : Addr) (m c : Nat) (news : List Value) (hx : a.eval x = .slice (some ad) m c) (hl : news.length = m * size) (hnews : ∀ j u, news[j]? = some u → w.cell? (ad.add j) = some u) (h1 : ∀ u ∈ news, u.oneCell' = true)
    (h63 : n + m ≤ maxLen) (hbytes : (n + m) * bytes ≤ 140737488355328) (hbase : base ≤ w.heap.size)
    (h : ∀ v' w', w'.ownsRow base e size v' (n + m) (xs ++ news) → w.grownBy w' v.ownBlock → (v'.ownBlock = v.ownBlock ∨ v'.ownBlock = some w.heap.size) → K (a.put o.dst v') w') : Oper.wp P o a w K Q := by
  obtain ⟨v', w', hr, h2, h3, h4, h5⟩ := run_append_own_at (P := P) w base t o.type e i z size bytes ht hi hz hsize hby hzs hsz v n xs hown ad m c news hl hnews h1 h63 hbytes hbase
  unfold Oper.wp execOp
  simp only [ho, resolve, invoke, builtin, Sem.run_bind, Sem.run_pure, Result.andThen_ok, List.map_toArray, List.map_cons, List.map_nil, hs, hx, hr]
  exact h v' w' h2 h3 h5
theorem qe_one (q : Qe) : ∀ u ∈ qeC q, u.oneCell' = true := by
  intro u hu
  simp only [qeC, List.mem_cons, List.not_mem_nil, or_false] at hu
  rcases hu with rfl | rfl | rfl <;> rfl
section
variable {w : World} {B b : Nat} {v : Value}
theorem accept_end {D Z w' : World} {a va : Option Addr} {cap vc : Nat} {rm tk rf : Nat} {al : List Qe} {q : Qe} (hR : Rk D B b (.slice a al.length cap) ⟨rm, tk, rf, false, al⟩) (hO : w'.ownsRow B 46 3 (.slice va (al.length + 1) vc) (al ++ [q]).length (flatG qeC (al ++ [q]))) (hA : (Value.slice va (al.length + 1) vc).ownBlock = (Value.slice a al.length cap).ownBlock ∨ (Value.slice va (al.length + 1) vc).ownBlock = some Z.drew.heap.size) (hH : Hp w' b 64 [.int .i64 rm, .int .i64 tk, .int .i64 rf, .bool false, (.slice a al.length cap)]) (hC : Chg D (w'.setCell ⟨b, 4, none⟩ (.slice va (al.length + 1) vc)) (bkS b (.slice a al.length cap))) (hbD : Below w.heap.size w D) (hbZ : Below D.heap.size D Z) (hap : (Value.slice a al.length cap).ownBlock ≠ some b) (hrl : ∀ k, (Value.slice a al.length cap).ownBlock = some k → B ≤ k ∧ k < w.heap.size) {e : Ending} {n : Int} (he : e = .returned (.tuple #[.int .i64 n, .int .i64 0])) :
    e = .returned (.tuple #[.int .i64 n, .int .i64 0]) ∧ ∃ v', Rk (w'.setCell ⟨b, 4, none⟩ (.slice va (al.length + 1) vc)) B b v' ⟨rm, tk, rf, false, al ++ [q]⟩ ∧ Chg w (w'.setCell ⟨b, 4, none⟩ (.slice va (al.length + 1) vc)) (bkS b (.slice a al.length cap)) ∧ RowNew w (.slice a al.length cap) v' := by
  refine ⟨he, _, ⟨hH.set 4 _, own_chg hO (Chg.set w' b 4 _) (fun k hk e => own_type10 hO hH (by decide) (by rw [hk, e]))⟩, (Chg.of_below (S := bkS b (.slice a al.length cap)) hbD).trans hC (fun _ _ e => e), ?_⟩
  rcases hA with g | g
  · exact .inl g
  · exact .inr ⟨_, g, Nat.le_trans hbD.size hbZ.size⟩
theorem kAccept_shut (ea eb nx : Int) {rm tk rf : Nat} {al : List Qe} (h : Rk w B b v ⟨rm, tk, rf, true, al⟩) : Calls Try.prog 11 #[.pointer (some ⟨b, 0, none⟩), .agg #[.int .u64 ea, .int .u64 eb], .int .i64 nx] w fun e w' => e = .returned (.tuple #[.int .i64 0, .int .i64 43]) ∧ Below w.heap.size w w' := by
  obtain ⟨X, HX, HeX, hbX, hzX⟩ : ∃ X, Hid (w.alloc (.cells #[.int .u64 ea, .int .u64 eb] 38) = X) ∧ Hid (Hp X w.heap.size 38 [.int .u64 ea, .int .u64 eb]) ∧ Below w.heap.size w X ∧ X.heap.size = w.heap.size + 1 := ⟨_, rfl, Hp.new w _ _, below_allocG _ _, by simp⟩
  have c3 := (h.below hbX).hp.cell (j := 3) rfl
  simp only at c3
  clear h
  go_enter Try.func11, Try.ntmps11
  go_wp2_with (rw [HX.out])
  go_ret2
  exact ⟨rfl, hbX⟩
set_option maxHeartbeats 1600000 in
theorem kAccept_full (ea eb nx : Int) {rm tk rf : Nat} {al : List Qe} (h : Rk w B b v ⟨rm, tk, rf, false, al⟩) (ht : tk ≤ al.length) (hf : rm ≤ al.length - tk) (hr : rf ≤ 1000000000000000000) (hrm : rm ≤ 16) : Calls Try.prog 11 #[.pointer (some ⟨b, 0, none⟩), .agg #[.int .u64 ea, .int .u64 eb], .int .i64 nx] w fun e w' => e = .returned (.tuple #[.int .i64 0, .int .i64 40]) ∧ Rk w' B b v ⟨rm, tk, rf + 1, false, al⟩ ∧ Chg w w' (fun k => k = b) := by
  obtain ⟨X, HX, HeX, hbX, hzX⟩ : ∃ X, Hid (w.alloc (.cells #[.int .u64 ea, .int .u64 eb] 38) = X) ∧ Hid (Hp X w.heap.size 38 [.int .u64 ea, .int .u64 eb]) ∧ Below w.heap.size w X ∧ X.heap.size = w.heap.size + 1 := ⟨_, rfl, Hp.new w _ _, below_allocG _ _, by simp⟩
  have hlt := h.hp.lt
  have HRX := keepG (h.below hbX)
  obtain ⟨a, cap, rfl, hcap, hm⟩ := (own_seesG qeC_len Qe.nil h.row).shape
  simp only at hcap
  obtain ⟨c0, c1, c2, c3, c4⟩ := HRX.out.low (w' := w)
  simp only at c0 c1 c2 c3 c4
  have f2 := HRX.out.hp.frozen 2
  have hw1 : IntKind.i64.wrap ((al.length : Int) - tk) = al.length - tk := by rw [IntKind.wrap_i64]; omega
  have hge : (rm : Int) ≤ al.length - tk := by omega
  have hr2 : (rf : Int) ≤ 1000000000000000000 := by omega
  clear h
  go_enter Try.func11, Try.ntmps11
  go_wp2_with (rw [HX.out])
  refine wp_region_held_drew (S := fun w' => w'.cell? ⟨b, 0, none⟩ = some (.int .i64 rm) ∧ w'.cell? ⟨b, 1, none⟩ = some (.int .i64 tk) ∧ w'.cell? ⟨b, 4, none⟩ = some (.slice a al.length cap)) (by kernel_rfl) ⟨c0, c1, c4⟩ (fun hHeld => ?_)
  refine tkGo [0, 1, 2, 3, 4, 5, 6, 7, 8, 9, 10, 11, 12, 13, 14] ?_
  repeat (refine tkOne (v := ?_) rfl (by kernel_rfl) (by kernel_rfl) (by kernel_rfl) (fun _ _ _ h => h) (by assumption) (by rfl) ?_ ?_; rotate_left; (intro wy hSw; (try dsimp only at hSw); go_simp; (first | done | with_reducible rfl)); try simp only [Act.put, List.getElem_toArray, List.getElem_cons_zero, List.getElem_cons_succ, List.setIfInBounds_toArray, List.set_cons_zero, List.set_cons_succ])
  refine tkEnd ?_
  refine wpAnyH_done (by kernel_rfl) ?_ _
  clear hHeld
  go_wp2
  go_ret2
  exact ⟨rfl, Rk.set (w := X.drew) ⟨HRX.out.hp, HRX.out.row⟩ 2 _ rfl rfl rfl, ((Chg.of_below (S := fun k => k = b) hbX).drewN 1).trans (Chg.set _ b 2 _) (fun _ _ e => e)⟩
set_option maxHeartbeats 3200000 in
theorem kAccept_yes (ea eb nx : Int) {rm tk rf : Nat} {al : List Qe} (h : Rk w B b v ⟨rm, tk, rf, false, al⟩) (ht : tk ≤ al.length) (hf : ¬ rm ≤ al.length - tk) (hrm : rm ≤ 16) (hB : B ≤ w.heap.size) (hz : (al.length + 1) * 24 ≤ 140737488355328) : Calls Try.prog 11 #[.pointer (some ⟨b, 0, none⟩), .agg #[.int .u64 ea, .int .u64 eb], .int .i64 nx] w fun e w' => e = .returned (.tuple #[.int .i64 nx, .int .i64 0]) ∧ ∃ v', Rk w' B b v' ⟨rm, tk, rf, false, al ++ [⟨nx, ea, eb⟩]⟩ ∧ Chg w w' (bkS b v) ∧ RowNew w v v' := by
  obtain ⟨X, HX, HeX, hbX, hzX⟩ : ∃ X, Hid (w.alloc (.cells #[.int .u64 ea, .int .u64 eb] 38) = X) ∧ Hid (Hp X w.heap.size 38 [.int .u64 ea, .int .u64 eb]) ∧ Below w.heap.size w X ∧ X.heap.size = w.heap.size + 1 := ⟨_, rfl, Hp.new w _ _, below_allocG _ _, by simp⟩
  have hlt := h.hp.lt
  have hap := h.apart
  have hrl := h.row.lt
  have HRX := keepG (h.below hbX)
  obtain ⟨i0, hi0, hz0, hzs, hzb⟩ := info_parts infoQe
  obtain ⟨a, cap, rfl, hcap, hm⟩ := (own_seesG qeC_len Qe.nil h.row).shape
  simp only at hcap
  obtain ⟨c0, c1, c2, c3, c4⟩ := HRX.out.low (w' := w)
  simp only at c0 c1 c2 c3 c4
  have hw1 : IntKind.i64.wrap ((al.length : Int) - tk) = al.length - tk := by rw [IntKind.wrap_i64]; omega
  have hge : ¬ (rm : Int) ≤ al.length - tk := by omega
  have e0 := HeX.out.cell (j := 0) rfl
  have e1 := HeX.out.cell (j := 1) rfl
  clear h
  go_enter Try.func11, Try.ntmps11
  go_wp2_with (rw [HX.out])
  refine wp_region_held_drew (S := fun w' => w'.cell? ⟨b, 0, none⟩ = some (.int .i64 rm) ∧ w'.cell? ⟨b, 1, none⟩ = some (.int .i64 tk) ∧ w'.cell? ⟨b, 4, none⟩ = some (.slice a al.length cap)) (by kernel_rfl) ⟨c0, c1, c4⟩ (fun hHeld => ?_)
  refine tkGo [0, 1, 2, 3, 4, 5, 6, 7, 8, 9, 10, 11, 12, 13, 14] ?_
  repeat (refine tkOne (v := ?_) rfl (by kernel_rfl) (by kernel_rfl) (by kernel_rfl) (fun _ _ _ h => h) (by assumption) (by rfl) ?_ ?_; rotate_left; (intro wy hSw; (try dsimp only at hSw); go_simp; (first | done | with_reducible rfl)); try simp only [Act.put, List.getElem_toArray, List.getElem_cons_zero, List.getElem_cons_succ, List.setIfInBounds_toArray, List.set_cons_zero, List.set_cons_succ])
  refine tkEnd ?_
  refine wpAnyH_done (by kernel_rfl) ?_ _
  clear hHeld
  obtain ⟨D, HD, HRD, HKE, hbD⟩ : ∃ D, Hid (X.drew = D) ∧ Hid (Rk D B b (.slice a al.length cap) ⟨rm, tk, rf, false, al⟩) ∧ Hid (∀ wx : World, Chg D wx (bkS b (.slice a al.length cap)) → wx.cell? ⟨w.heap.size, 0, none⟩ = some (.int .u64 ea) ∧ wx.cell? ⟨w.heap.size, 1, none⟩ = some (.int .u64 eb)) ∧ Below w.heap.size w D := ⟨_, rfl, ⟨HRX.out.hp, HRX.out.row⟩, fun wx hc => have g := (show Hp X.drew w.heap.size 38 [.int .u64 ea, .int .u64 eb] from HeX.out).chg hc (fun e => by rcases e with e | e; omega; have := (hrl _ e).2; omega); ⟨g.cell rfl, g.cell rfl⟩, below_drG hbX⟩
  rw [HD.out]
  have c4D := HRD.out.hp.cell (j := 4) rfl
  obtain ⟨Z, HZ, HnZ, hbZ⟩ : ∃ Z, Hid (D.alloc (.cells #[.int .i64 nx, .int .u64 ea, .int .u64 eb] 46) = Z) ∧ Hid (∀ j u, (qeC ⟨nx, ea, eb⟩)[j]? = some u → Z.cell? ((⟨D.heap.size, 0, none⟩ : Addr).add j) = some u) ∧ Below D.heap.size D Z := ⟨_, rfl, cells_new D (qeC ⟨nx, ea, eb⟩) _ _ rfl, below_allocG _ _⟩
  have c4Z := (HRD.out.hp.below hbZ HRD.out.hp.lt).cell (j := 4) rfl
  clear c0 c1 c2 c3 c4 hge hw1 e0 e1
  go_wp2
  refine wp_region_held_drew (S := fun w' => w'.cell? ⟨w.heap.size, 0, none⟩ = some (.int .u64 ea) ∧ w'.cell? ⟨w.heap.size, 1, none⟩ = some (.int .u64 eb)) (by kernel_rfl) (HKE.out _ ((Chg.refl D _).drewN 1)) (fun hHeld => ?_)
  refine tkGo [0, 1, 2, 3, 5, 6, 7] ?_
  repeat (refine tkOne (v := ?_) rfl (by kernel_rfl) (by kernel_rfl) (by kernel_rfl) (fun _ _ _ h => h) (by assumption) (by rfl) ?_ ?_; rotate_left; (intro wy hSw; (try dsimp only at hSw); go_simp; (first | done | with_reducible rfl)); try simp only [Act.put, List.getElem_toArray, List.getElem_cons_zero, List.getElem_cons_succ, List.setIfInBounds_toArray, List.set_cons_zero, List.set_cons_succ])
  refine tkEnd ?_
  refine wpAnyH_ready (rs := [4, 8]) (by kernel_rfl) (by simp) ?_
  refine AllReadyH.cons rfl (fun KK hK => ?_) (AllReadyH.cons rfl (fun KK hK => ?_) AllReadyH.nil) <;> rw [if_pos (by rfl)]
  · go_simp
    refine hK.out _ _ (HKE.out _ ((Chg.refl D _).drewN 1)) (fun hHeld => ?_)
    clear hK KK
    try simp only [Act.put, List.getElem_toArray, List.getElem_cons_zero, List.getElem_cons_succ, List.setIfInBounds_toArray, List.set_cons_zero, List.set_cons_succ]
    refine wpAnyH_ready (rs := [8]) (by kernel_rfl) (by simp) ?_
    refine AllReadyH.cons rfl (fun KK hK => ?_) AllReadyH.nil
    rw [if_pos (by rfl)]
    go_simp
    rw [HZ.out]
    refine hK.out _ _ (HKE.out _ ((Chg.of_below hbZ).drewN 1)) (fun hHeld => ?_)
    clear hK KK
    try simp only [Act.put, List.getElem_toArray, List.getElem_cons_zero, List.getElem_cons_succ, List.setIfInBounds_toArray, List.set_cons_zero, List.set_cons_succ]
    refine wpAnyH_ready (rs := [9]) (by kernel_rfl) (by simp) ?_
    refine AllReadyH.cons rfl (fun KK hK => ?_) AllReadyH.nil
    rw [if_pos (by rfl)]
    refine wp_append_at _ (.tmp 38) (.tmp 42) 50 rfl B 46 i0 _ 3 24 Try.underlying50 hi0 hz0 hzs hzb rfl (by decide) (.slice a al.length cap) al.length (flatG qeC al) rfl (own_below HRD.out.row (below_drG hbZ) (Nat.le_refl _)) ⟨D.heap.size, 0, none⟩ 1 1 (qeC ⟨nx, ea, eb⟩) rfl rfl HnZ.out (qe_one _) (by unfold maxLen; omega) hz (Nat.le_trans hB (Nat.le_trans hbD.size hbZ.size)) ?_
    intro v' w' hown hgr hat
    have hch : Chg D w' (fun k => (Value.slice a al.length cap).ownBlock = some k) := ((Chg.of_below (S := fun k => (Value.slice a al.length cap).ownBlock = some k) hbZ).drewN 1).trans (Chg.of_grown' hgr (fun k e => e)) (fun _ _ e => e)
    have HOW := keepG (own_moreG (x := (⟨nx, ea, eb⟩ : Qe)) hown)
    have HAt := keepG hat
    obtain ⟨va, vc, rfl⟩ := own_shape hown
    have Hb1 := keepG (HRD.out.hp.chg hch hap)
    have c4w := Hb1.out.cell (j := 4) rfl
    have f4w := Hb1.out.frozen 4
    have HCH := keepG hch
    refine hK.out _ _ (HKE.out w' (hch.mono (fun k e => .inr e))) (fun hHeld => ?_)
    clear hK KK hown hgr hat
    try simp only [Act.put, List.getElem_toArray, List.getElem_cons_zero, List.getElem_cons_succ, List.setIfInBounds_toArray, List.set_cons_zero, List.set_cons_succ]
    refine tkGo [10, 11] ?_
    repeat (refine tkOne (v := ?_) rfl (by kernel_rfl) (by kernel_rfl) (by kernel_rfl) (fun _ _ _ h => h) (by assumption) (by rfl) ?_ ?_; rotate_left; (intro wy hSw; (try dsimp only at hSw); go_simp; (first | done | with_reducible rfl)); try simp only [Act.put, List.getElem_toArray, List.getElem_cons_zero, List.getElem_cons_succ, List.setIfInBounds_toArray, List.set_cons_zero, List.set_cons_succ])
    refine tkEnd ?_
    refine wpAnyH_ready (rs := [12]) (by kernel_rfl) (by simp) ?_
    refine AllReadyH.cons rfl (fun KK hK => ?_) AllReadyH.nil
    rw [if_pos (by rfl)]
    go_simp
    have hc2 : Chg D (w'.setCell ⟨b, 4, none⟩ (.slice va (al.length + 1) vc)) (bkS b (.slice a al.length cap)) := (HCH.out.mono (fun k e => .inr e)).trans (Chg.set w' b 4 _) (fun k _ e => .inl e)
    have HC2 := keepG hc2
    refine hK.out _ _ (HKE.out _ hc2) (fun hHeld => ?_)
    clear hK KK hc2
    try simp only [Act.put, List.getElem_toArray, List.getElem_cons_zero, List.getElem_cons_succ, List.setIfInBounds_toArray, List.set_cons_zero, List.set_cons_succ]
    refine wpAnyH_done (by kernel_rfl) ?_ _
    clear hHeld
    go_wp2
    go_ret2
    exact accept_end HRD.out HOW.out HAt.out Hb1.out HC2.out hbD hbZ hap hrl rfl
  · go_simp
    rw [HZ.out]
    refine hK.out _ _ (HKE.out _ ((Chg.of_below hbZ).drewN 1)) (fun hHeld => ?_)
    clear hK KK
    try simp only [Act.put, List.getElem_toArray, List.getElem_cons_zero, List.getElem_cons_succ, List.setIfInBounds_toArray, List.set_cons_zero, List.set_cons_succ]
    refine wpAnyH_ready (rs := [4]) (by kernel_rfl) (by simp) ?_
    refine AllReadyH.cons rfl (fun KK hK => ?_) AllReadyH.nil
    rw [if_pos (by rfl)]
    go_simp
    refine hK.out _ _ (HKE.out _ ((Chg.of_below hbZ).drewN 1)) (fun hHeld => ?_)
    clear hK KK
    try simp only [Act.put, List.getElem_toArray, List.getElem_cons_zero, List.getElem_cons_succ, List.setIfInBounds_toArray, List.set_cons_zero, List.set_cons_succ]
    refine wpAnyH_ready (rs := [9]) (by kernel_rfl) (by simp) ?_
    refine AllReadyH.cons rfl (fun KK hK => ?_) AllReadyH.nil
    rw [if_pos (by rfl)]
    refine wp_append_at _ (.tmp 38) (.tmp 42) 50 rfl B 46 i0 _ 3 24 Try.underlying50 hi0 hz0 hzs hzb rfl (by decide) (.slice a al.length cap) al.length (flatG qeC al) rfl (own_below HRD.out.row (below_drG hbZ) (Nat.le_refl _)) ⟨D.heap.size, 0, none⟩ 1 1 (qeC ⟨nx, ea, eb⟩) rfl rfl HnZ.out (qe_one _) (by unfold maxLen; omega) hz (Nat.le_trans hB (Nat.le_trans hbD.size hbZ.size)) ?_
    intro v' w' hown hgr hat
    have hch : Chg D w' (fun k => (Value.slice a al.length cap).ownBlock = some k) := ((Chg.of_below (S := fun k => (Value.slice a al.length cap).ownBlock = some k) hbZ).drewN 1).trans (Chg.of_grown' hgr (fun k e => e)) (fun _ _ e => e)
    have HOW := keepG (own_moreG (x := (⟨nx, ea, eb⟩ : Qe)) hown)
    have HAt := keepG hat
    obtain ⟨va, vc, rfl⟩ := own_shape hown
    have Hb1 := keepG (HRD.out.hp.chg hch hap)
    have c4w := Hb1.out.cell (j := 4) rfl
    have f4w := Hb1.out.frozen 4
    have HCH := keepG hch
    refine hK.out _ _ (HKE.out w' (hch.mono (fun k e => .inr e))) (fun hHeld => ?_)
    clear hK KK hown hgr hat
    try simp only [Act.put, List.getElem_toArray, List.getElem_cons_zero, List.getElem_cons_succ, List.setIfInBounds_toArray, List.set_cons_zero, List.set_cons_succ]
    refine tkGo [10, 11] ?_
    repeat (refine tkOne (v := ?_) rfl (by kernel_rfl) (by kernel_rfl) (by kernel_rfl) (fun _ _ _ h => h) (by assumption) (by rfl) ?_ ?_; rotate_left; (intro wy hSw; (try dsimp only at hSw); go_simp; (first | done | with_reducible rfl)); try simp only [Act.put, List.getElem_toArray, List.getElem_cons_zero, List.getElem_cons_succ, List.setIfInBounds_toArray, List.set_cons_zero, List.set_cons_succ])
    refine tkEnd ?_
    refine wpAnyH_ready (rs := [12]) (by kernel_rfl) (by simp) ?_
    refine AllReadyH.cons rfl (fun KK hK => ?_) AllReadyH.nil
    rw [if_pos (by rfl)]
    go_simp
    have hc2 : Chg D (w'.setCell ⟨b, 4, none⟩ (.slice va (al.length + 1) vc)) (bkS b (.slice a al.length cap)) := (HCH.out.mono (fun k e => .inr e)).trans (Chg.set w' b 4 _) (fun k _ e => .inl e)
    have HC2 := keepG hc2
    refine hK.out _ _ (HKE.out _ hc2) (fun hHeld => ?_)
    clear hK KK hc2
    try simp only [Act.put, List.getElem_toArray, List.getElem_cons_zero, List.getElem_cons_succ, List.setIfInBounds_toArray, List.set_cons_zero, List.set_cons_succ]
    refine wpAnyH_done (by kernel_rfl) ?_ _
    clear hHeld
    go_wp2
    go_ret2
    exact accept_end HRD.out HOW.out HAt.out Hb1.out HC2.out hbD hbZ hap hrl rfl
end
end Go.Proofs.Ythcdfknadcdfkaa
