
/-
  The landed ring of layer 16: Accept. Condition: it lies where the pointer says, its row is the call's own, its Numbers lie beside it.
-/
import Derived.Test.YthcdfknadcdfkaaTk
import Derived.Test.YthcdfknadcdfkaaR16LA
namespace Go.Proofs.Ythcdfknadcdfkaa
open Go.RowKit
set_option linter.unusedVariables false
set_option linter.unusedSimpArgs false
set_option maxRecDepth 100000
section
variable {w w' : World} {B b nb : Nat} {v : Value} {rm : Nat} {W : List Qe} {cl : Bool} {rf tk dr : Nat} {last : Int}
theorem laccept_shut (ea eb : Int) (h : Lk w B b nb v rm W true rf tk dr) : Calls Try.prog 10 #[.pointer (some ⟨b, 0, none⟩), .agg #[.int .u64 ea, .int .u64 eb]] w fun e w' => e = .returned (.tuple #[.int .i64 0, .int .i64 43]) ∧ Below w.heap.size w w' := by
  obtain ⟨X, HX, hbX⟩ : ∃ X, Hid (w.alloc (.cells #[.int .u64 ea, .int .u64 eb] 38) = X) ∧ Below w.heap.size w X := ⟨_, rfl, below_allocG _ _⟩
  have c3 := (h.below hbX).hp.cell (j := 3) rfl
  clear h
  go_enter Try.func10, Try.ntmps10
  go_wp2_with (rw [HX.out])
  go_ret2
  exact ⟨rfl, hbX⟩
set_option maxHeartbeats 1600000 in
theorem laccept_full (ea eb : Int) (h : Lk w B b nb v rm W false rf tk dr) (hf : rm ≤ W.length) (hr : rf ≤ 1000000000000000000) : Calls Try.prog 10 #[.pointer (some ⟨b, 0, none⟩), .agg #[.int .u64 ea, .int .u64 eb]] w fun e w' => e = .returned (.tuple #[.int .i64 0, .int .i64 40]) ∧ Lk w' B b nb v rm W false (rf + 1) tk dr ∧ Chg w w' (fun k => k = b) := by
  obtain ⟨X, HX, hbX⟩ : ∃ X, Hid (w.alloc (.cells #[.int .u64 ea, .int .u64 eb] 38) = X) ∧ Below w.heap.size w X := ⟨_, rfl, below_allocG _ _⟩
  obtain ⟨a, cap, rfl, hcap, hm⟩ := (own_seesG qeC_len Qe.nil h.row).shape
  have HLX := keepG (h.below hbX)
  obtain ⟨c0, c1, c2, c3, c4, c5, c6⟩ := HLX.out.low
  have f4 := HLX.out.hp.frozen 4
  have hge : (rm : Int) ≤ W.length := by omega
  have hw1 : IntKind.i64.wrap ((rf : Int) + 1) = (rf : Int) + 1 := by rw [IntKind.wrap_i64]; omega
  clear h
  go_enter Try.func10, Try.ntmps10
  go_wp2_with (rw [HX.out])
  refine wp_region_held_drew (S := fun w' => w'.cell? ⟨b, 0, none⟩ = some (.int .i64 rm) ∧ w'.cell? ⟨b, 2, none⟩ = some (.slice a W.length cap)) (by kernel_rfl) ⟨c0, c2⟩ (fun hHeld => ?_)
  refine tkGo [0, 1, 2, 3, 4, 5, 6, 7, 8, 9] ?_
  repeat (refine tkOne (v := ?_) rfl (by kernel_rfl) (by kernel_rfl) (by kernel_rfl) (fun _ _ _ h => h) (by assumption) (by rfl) ?_ ?_; rotate_left; (intro wy hSw; (try dsimp only at hSw); go_simp; (first | done | with_reducible rfl)); try simp only [Act.put, List.getElem_toArray, List.getElem_cons_zero, List.getElem_cons_succ, List.setIfInBounds_toArray, List.set_cons_zero, List.set_cons_succ])
  refine tkEnd ?_
  refine wpAnyH_done (by kernel_rfl) ?_ _
  clear hHeld
  go_wp2
  go_ret2
  exact ⟨rfl, Lk.set (w := X.drew) ⟨HLX.out.hp, HLX.out.row⟩ 4 _ rfl, ((Chg.of_below (S := fun k => k = b) hbX).drewN 1).trans (Chg.set _ b 4 _) (fun _ _ e => e)⟩
/-- What Accept changes. -/
def acS (b nb : Nat) (v : Value) (k : Nat) : Prop := bkS b v k ∨ k = nb
theorem laccept_end {U w' : World} {a va : Option Addr} {cap vc : Nat} {q : Qe} {m : Int} (hA : (Value.slice va (W.length + 1) vc).ownBlock = (Value.slice a W.length cap).ownBlock ∨ ∃ k, (Value.slice va (W.length + 1) vc).ownBlock = some k ∧ U.heap.size ≤ k) (hO : w'.ownsRow B 46 3 (.slice va (W.length + 1) vc) (W ++ [q]).length (flatG qeC (W ++ [q]))) (hH : Hp w' b 62 [.int .i64 rm, .pointer (some ⟨nb, 0, none⟩), .slice a W.length cap, .bool false, .int .i64 rf, .int .i64 tk, .int .i64 dr]) (hN : Nm w' nb m) (hbn : b ≠ nb) (hC : Chg w w' (acS b nb (.slice a W.length cap))) (hwU : w.heap.size ≤ U.heap.size) {e : Ending} {n : Int} (he : e = .returned (.tuple #[.int .i64 n, .int .i64 0])) :
    e = .returned (.tuple #[.int .i64 n, .int .i64 0]) ∧ ∃ v', Lk (w'.setCell ⟨b, 2, none⟩ (.slice va (W.length + 1) vc)) B b nb v' rm (W ++ [q]) false rf tk dr ∧ Nm (w'.setCell ⟨b, 2, none⟩ (.slice va (W.length + 1) vc)) nb m ∧ Chg w (w'.setCell ⟨b, 2, none⟩ (.slice va (W.length + 1) vc)) (acS b nb (.slice a W.length cap)) ∧ RowNew w (.slice a W.length cap) v' := by
  refine ⟨he, _, ⟨hH.set 2 _, own_chg hO (Chg.set w' b 2 _) (fun k hk e => own_type10 hO hH (by decide) (by rw [hk, e]))⟩, Hp.far hN (fun e => hbn e.symm), hC.trans (Chg.set w' b 2 _) (fun k _ e => .inl (.inl e)), ?_⟩
  rcases hA with g | ⟨k, g, hk⟩
  · exact .inl g
  · exact .inr ⟨k, g, Nat.le_trans hwU hk⟩
set_option maxHeartbeats 3200000 in
theorem laccept_yes (ea eb : Int) (h : Lk w B b nb v rm W false rf tk dr) (hN : Nm w nb last) (hl : W.length ≤ 16) (hf : ¬ rm ≤ W.length) (h0 : 0 ≤ last) (hla : last ≤ 1000000000000000000) (hB : B ≤ w.heap.size) : Calls Try.prog 10 #[.pointer (some ⟨b, 0, none⟩), .agg #[.int .u64 ea, .int .u64 eb]] w fun e w' => e = .returned (.tuple #[.int .i64 (last + 1), .int .i64 0]) ∧ ∃ v', Lk w' B b nb v' rm (W ++ [⟨last + 1, ea, eb⟩]) false rf tk dr ∧ Nm w' nb (last + 1) ∧ Chg w w' (acS b nb v) ∧ RowNew w v v' := by
  obtain ⟨X, HX, HeX, hbX, hzX⟩ : ∃ X, Hid (w.alloc (.cells #[.int .u64 ea, .int .u64 eb] 38) = X) ∧ Hid (Hp X w.heap.size 38 [.int .u64 ea, .int .u64 eb]) ∧ Below w.heap.size w X ∧ X.heap.size = w.heap.size + 1 := ⟨_, rfl, Hp.new w _ _, below_allocG _ _, by simp⟩
  obtain ⟨i0, hi0, hz0, hzs, hzb⟩ := info_parts infoQe
  obtain ⟨a, cap, rfl, hcap, hm⟩ := (own_seesG qeC_len Qe.nil h.row).shape
  have hlt := h.hp.lt
  have hap := h.apart
  have hrl := h.row.lt
  obtain ⟨hvn, hbn⟩ := h.apartN hN
  have hnl := Hp.lt hN
  have HLX := keepG (h.below hbX)
  obtain ⟨c0, c1, c2, c3, c4, c5, c6⟩ := HLX.out.low
  have hge : ¬ (rm : Int) ≤ W.length := by omega
  have HNX := keepG (show Nm X nb last from Hp.below hN hbX hnl)
  clear h
  go_enter Try.func10, Try.ntmps10
  go_wp2_with (rw [HX.out])
  refine wp_region_held_drew (S := fun w' => w'.cell? ⟨b, 0, none⟩ = some (.int .i64 rm) ∧ w'.cell? ⟨b, 2, none⟩ = some (.slice a W.length cap)) (by kernel_rfl) ⟨c0, c2⟩ (fun hHeld => ?_)
  refine tkGo [0, 1, 2, 3, 4, 5, 6, 7, 8, 9] ?_
  repeat (refine tkOne (v := ?_) rfl (by kernel_rfl) (by kernel_rfl) (by kernel_rfl) (fun _ _ _ h => h) (by assumption) (by rfl) ?_ ?_; rotate_left; (intro wy hSw; (try dsimp only at hSw); go_simp; (first | done | with_reducible rfl)); try simp only [Act.put, List.getElem_toArray, List.getElem_cons_zero, List.getElem_cons_succ, List.setIfInBounds_toArray, List.set_cons_zero, List.set_cons_succ])
  refine tkEnd ?_
  refine wpAnyH_done (by kernel_rfl) ?_ _
  clear hHeld
  go_wp2
  have HKE : Hid (∀ wx : World, Chg X wx (fun k => k = nb) → wx.cell? ⟨b, 1, none⟩ = some (.pointer (some ⟨nb, 0, none⟩)) ∧ wx.cell? ⟨w.heap.size, 0, none⟩ = some (.int .u64 ea) ∧ wx.cell? ⟨w.heap.size, 1, none⟩ = some (.int .u64 eb)) := fun wx hc => have g := HeX.out.chg hc (fun e => by omega); have g2 := HLX.out.hp.chg hc hbn; ⟨g2.cell rfl, g.cell rfl, g.cell rfl⟩
  refine wp_region_held_drew (S := fun w' => w'.cell? ⟨b, 1, none⟩ = some (.pointer (some ⟨nb, 0, none⟩)) ∧ w'.cell? ⟨w.heap.size, 0, none⟩ = some (.int .u64 ea) ∧ w'.cell? ⟨w.heap.size, 1, none⟩ = some (.int .u64 eb)) (by kernel_rfl) (HKE.out _ ((Chg.refl X _).drewN 2)) (fun hHeld => ?_)
  refine tkGo [0, 1, 2, 3, 5] ?_
  repeat (refine tkOne (v := ?_) rfl (by kernel_rfl) (by kernel_rfl) (by kernel_rfl) (fun _ _ _ h => h) (by assumption) (by rfl) ?_ ?_; rotate_left; (intro wy hSw; (try dsimp only at hSw); go_simp; (first | done | with_reducible rfl)); try simp only [Act.put, List.getElem_toArray, List.getElem_cons_zero, List.getElem_cons_succ, List.setIfInBounds_toArray, List.set_cons_zero, List.set_cons_succ])
  refine tkEnd ?_
  refine wpAnyH_ready (rs := [4, 7]) (by kernel_rfl) (by simp) ?_
  refine AllReadyH.cons rfl (fun KK hK => ?_) (AllReadyH.cons rfl (fun KK hK => ?_) AllReadyH.nil) <;> rw [if_pos (by rfl)]
  · go_simp
    go_at_call 22
    refine (lnext (w := X.drew.drew) (show Nm X.drew.drew nb last from HNX.out) h0 hla).mono ?_
    rintro e w1 ⟨rfl, rfl⟩
    go_simp
    have hcA : Chg X (X.setCell ⟨nb, 0, none⟩ (.int .i64 (last + 1))).drew.drew (fun k => k = nb) := (Chg.set X nb 0 _).drewN 2
    refine hK.out _ _ (HKE.out _ hcA) (fun hHeld => ?_)
    clear hK KK
    try simp only [Act.put, List.getElem_toArray, List.getElem_cons_zero, List.getElem_cons_succ, List.setIfInBounds_toArray, List.set_cons_zero, List.set_cons_succ]
    refine tkGo [6] ?_
    repeat (refine tkOne (v := ?_) rfl (by kernel_rfl) (by kernel_rfl) (by kernel_rfl) (fun _ _ _ h => h) (by assumption) (by rfl) ?_ ?_; rotate_left; (intro wy hSw; (try dsimp only at hSw); go_simp; (first | done | with_reducible rfl)); try simp only [Act.put, List.getElem_toArray, List.getElem_cons_zero, List.getElem_cons_succ, List.setIfInBounds_toArray, List.set_cons_zero, List.set_cons_succ])
    refine tkEnd ?_
    refine wpAnyH_ready (rs := [7]) (by kernel_rfl) (by simp) ?_
    refine AllReadyH.cons rfl (fun KK hK => ?_) AllReadyH.nil
    rw [if_pos (by rfl)]
    go_simp
    refine hK.out _ _ (HKE.out _ (((Chg.set X nb 0 (.int .i64 (last + 1))).trans (Chg.of_below (S := fun k => k = nb) (below_allocG _ _)) (fun _ _ e => e)).drewN 2)) (fun hHeld => ?_)
    clear hK KK
    try simp only [Act.put, List.getElem_toArray, List.getElem_cons_zero, List.getElem_cons_succ, List.setIfInBounds_toArray, List.set_cons_zero, List.set_cons_succ]
    refine wpAnyH_ready (rs := [8]) (by kernel_rfl) (by simp) ?_
    refine AllReadyH.cons rfl (fun KK hK => ?_) AllReadyH.nil
    rw [if_pos (by rfl)]
    go_simp
    obtain ⟨U, HU, HqU, HLU, HNU, hcU, hzU⟩ : ∃ U, Hid (((X.setCell ⟨nb, 0, none⟩ (.int .i64 (last + 1))).alloc (.cells #[.int .i64 (last + 1), .int .u64 ea, .int .u64 eb] 46)).drew.drew = U) ∧ Hid (Hp U (w.heap.size + 1) 46 (qeC ⟨last + 1, ea, eb⟩)) ∧ Hid (Lk U B b nb (.slice a W.length cap) rm W false rf tk dr) ∧ Hid (Nm U nb (last + 1)) ∧ Chg w U (fun k => k = nb) ∧ U.heap.size = w.heap.size + 2 := by
      have hs : (X.setCell ⟨nb, 0, none⟩ (.int .i64 (last + 1))).heap.size = w.heap.size + 1 := by simp [hzX]
      have h1 := Hp.new (X.setCell ⟨nb, 0, none⟩ (.int .i64 (last + 1))) (qeC ⟨last + 1, ea, eb⟩) 46
      rw [hs] at h1
      have hc := (((Chg.set X nb 0 (.int .i64 (last + 1))).trans (Chg.of_below (S := fun k => k = nb) (below_allocG _ (.cells #[.int .i64 (last + 1), .int .u64 ea, .int .u64 eb] 46))) (fun _ _ e => e)).drewN 2)
      exact ⟨_, rfl, h1, HLX.out.chg hc hbn (fun k hk e => hvn (by rw [hk, e])), Hp.alloc (Nm.next HNX.out) _, (Chg.of_below (S := fun k => k = nb) hbX).trans hc (fun _ _ e => e), by simp [hzX]⟩
    rw [HU.out]
    have hcXU : Chg X U (fun k => k = nb) := by rw [← HU.out]; exact ((Chg.set X nb 0 (.int .i64 (last + 1))).trans (Chg.of_below (S := fun k => k = nb) (below_allocG _ _)) (fun _ _ e => e)).drewN 2
    refine hK.out _ _ (HKE.out _ hcXU) (fun hHeld => ?_)
    clear hK KK
    try simp only [Act.put, List.getElem_toArray, List.getElem_cons_zero, List.getElem_cons_succ, List.setIfInBounds_toArray, List.set_cons_zero, List.set_cons_succ]
    refine wpAnyH_done (by kernel_rfl) ?_ _
    clear hHeld
    have hrlU : ∀ k, (Value.slice a W.length cap).ownBlock = some k → k < w.heap.size := fun k e => (hrl k e).2
    have HKQ : Hid (∀ wx : World, Chg U wx (bkS b (.slice a W.length cap)) → wx.cell? ⟨w.heap.size + 1, 0, none⟩ = some (.int .i64 (last + 1)) ∧ wx.cell? ⟨w.heap.size + 1, 1, none⟩ = some (.int .u64 ea) ∧ wx.cell? ⟨w.heap.size + 1, 2, none⟩ = some (.int .u64 eb)) := fun wx hc => have g := HqU.out.chg hc (fun e => by rcases e with e | e; omega; have := hrlU _ e; omega); ⟨g.cell rfl, g.cell rfl, g.cell rfl⟩
    obtain ⟨Z, HZ, HnZ, hbZ⟩ : ∃ Z, Hid (U.alloc (.cells #[.int .i64 (last + 1), .int .u64 ea, .int .u64 eb] 46) = Z) ∧ Hid (∀ j u, (qeC ⟨last + 1, ea, eb⟩)[j]? = some u → Z.cell? ((⟨w.heap.size + 2, 0, none⟩ : Addr).add j) = some u) ∧ Below U.heap.size U Z := ⟨_, rfl, cells_new U (qeC ⟨last + 1, ea, eb⟩) _ _ hzU.symm, below_allocG _ _⟩
    have c2U := HLU.out.hp.cell (j := 2) rfl
    have c2Z := (HLU.out.hp.below hbZ HLU.out.hp.lt).cell (j := 2) rfl
    clear c0 c1 c2 c3 c4 c5 c6
    go_wp2
    refine wp_region_held_drew (S := fun w' => w'.cell? ⟨w.heap.size + 1, 0, none⟩ = some (.int .i64 (last + 1)) ∧ w'.cell? ⟨w.heap.size + 1, 1, none⟩ = some (.int .u64 ea) ∧ w'.cell? ⟨w.heap.size + 1, 2, none⟩ = some (.int .u64 eb)) (by kernel_rfl) (HKQ.out _ ((Chg.refl U _).drewN 1)) (fun hHeld => ?_)
    refine tkGo [0, 1, 2, 3, 5] ?_
    repeat (refine tkOne (v := ?_) rfl (by kernel_rfl) (by kernel_rfl) (by kernel_rfl) (fun _ _ _ h => h) (by assumption) (by rfl) ?_ ?_; rotate_left; (intro wy hSw; (try dsimp only at hSw); go_simp; (first | done | with_reducible rfl)); try simp only [Act.put, List.getElem_toArray, List.getElem_cons_zero, List.getElem_cons_succ, List.setIfInBounds_toArray, List.set_cons_zero, List.set_cons_succ])
    refine tkEnd ?_
    refine wpAnyH_ready (rs := [4, 6]) (by kernel_rfl) (by simp) ?_
    refine AllReadyH.cons rfl (fun KK hK => ?_) (AllReadyH.cons rfl (fun KK hK => ?_) AllReadyH.nil) <;> rw [if_pos (by rfl)]
    · go_simp
      refine hK.out _ _ (HKQ.out _ ((Chg.refl U _).drewN 1)) (fun hHeld => ?_)
      clear hK KK
      try simp only [Act.put, List.getElem_toArray, List.getElem_cons_zero, List.getElem_cons_succ, List.setIfInBounds_toArray, List.set_cons_zero, List.set_cons_succ]
      refine wpAnyH_ready (rs := [6]) (by kernel_rfl) (by simp) ?_
      refine AllReadyH.cons rfl (fun KK hK => ?_) AllReadyH.nil
      rw [if_pos (by rfl)]
      go_simp
      rw [HZ.out]
      refine hK.out _ _ (HKQ.out _ ((Chg.of_below hbZ).drewN 1)) (fun hHeld => ?_)
      clear hK KK
      try simp only [Act.put, List.getElem_toArray, List.getElem_cons_zero, List.getElem_cons_succ, List.setIfInBounds_toArray, List.set_cons_zero, List.set_cons_succ]
      refine wpAnyH_ready (rs := [7]) (by kernel_rfl) (by simp) ?_
      refine AllReadyH.cons rfl (fun KK hK => ?_) AllReadyH.nil
      rw [if_pos (by rfl)]
      refine wp_append_at _ (.tmp 39) (.tmp 41) 50 rfl B 46 i0 _ 3 24 Try.underlying50 hi0 hz0 hzs hzb rfl (by decide) (.slice a W.length cap) W.length (flatG qeC W) rfl (own_below HLU.out.row (below_drG hbZ) (Nat.le_refl _)) ⟨w.heap.size + 2, 0, none⟩ 1 1 (qeC ⟨last + 1, ea, eb⟩) rfl rfl HnZ.out (qe_one _) (by unfold maxLen; omega) (by omega) (Nat.le_trans hB (Nat.le_trans hcU.size hbZ.size)) ?_
      intro v' w' hown hgr hat
      have hch : Chg U w' (fun k => (Value.slice a W.length cap).ownBlock = some k) := ((Chg.of_below (S := fun k => (Value.slice a W.length cap).ownBlock = some k) hbZ).drewN 1).trans (Chg.of_grown' hgr (fun k e => e)) (fun _ _ e => e)
      have HOW := keepG (own_moreG (x := (⟨last + 1, ea, eb⟩ : Qe)) hown)
      have HAt := keepG hat
      obtain ⟨va, vc, rfl⟩ := own_shape hown
      have Hb1 := keepG (HLU.out.hp.chg hch hap)
      have HN1 := keepG (show Nm w' nb (last + 1) from Hp.chg HNU.out hch hvn)
      have c2w := Hb1.out.cell (j := 2) rfl
      have f2w := Hb1.out.frozen 2
      have HCH := keepG hch
      refine hK.out _ _ (HKQ.out w' (hch.mono (fun k e => .inr e))) (fun hHeld => ?_)
      clear hK KK hown hgr hat
      try simp only [Act.put, List.getElem_toArray, List.getElem_cons_zero, List.getElem_cons_succ, List.setIfInBounds_toArray, List.set_cons_zero, List.set_cons_succ]
      refine tkGo [8, 9] ?_
      repeat (refine tkOne (v := ?_) rfl (by kernel_rfl) (by kernel_rfl) (by kernel_rfl) (fun _ _ _ h => h) (by assumption) (by rfl) ?_ ?_; rotate_left; (intro wy hSw; (try dsimp only at hSw); go_simp; (first | done | with_reducible rfl)); try simp only [Act.put, List.getElem_toArray, List.getElem_cons_zero, List.getElem_cons_succ, List.setIfInBounds_toArray, List.set_cons_zero, List.set_cons_succ])
      refine tkEnd ?_
      refine wpAnyH_ready (rs := [10]) (by kernel_rfl) (by simp) ?_
      refine AllReadyH.cons rfl (fun KK hK => ?_) AllReadyH.nil
      rw [if_pos (by rfl)]
      go_simp
      have hc2 : Chg U (w'.setCell ⟨b, 2, none⟩ (.slice va (W.length + 1) vc)) (bkS b (.slice a W.length cap)) := (HCH.out.mono (fun k e => .inr e)).trans (Chg.set w' b 2 _) (fun k _ e => .inl e)
      have HQ2 := HKQ.out _ hc2
      refine hK.out _ _ HQ2 (fun hHeld => ?_)
      clear hK KK hc2
      try simp only [Act.put, List.getElem_toArray, List.getElem_cons_zero, List.getElem_cons_succ, List.setIfInBounds_toArray, List.set_cons_zero, List.set_cons_succ]
      refine wpAnyH_done (by kernel_rfl) ?_ _
      clear hHeld
      have y0 := HQ2.1
      go_wp2
      go_ret2
      exact laccept_end (U := U) (HAt.out.imp id (fun e => ⟨_, e, hbZ.size⟩)) HOW.out Hb1.out HN1.out hbn ((hcU.mono (fun k e => .inr e)).trans HCH.out (fun k _ e => .inl (.inr e))) hcU.size rfl
    · go_simp
      rw [HZ.out]
      refine hK.out _ _ (HKQ.out _ ((Chg.of_below hbZ).drewN 1)) (fun hHeld => ?_)
      clear hK KK
      try simp only [Act.put, List.getElem_toArray, List.getElem_cons_zero, List.getElem_cons_succ, List.setIfInBounds_toArray, List.set_cons_zero, List.set_cons_succ]
      refine wpAnyH_ready (rs := [4]) (by kernel_rfl) (by simp) ?_
      refine AllReadyH.cons rfl (fun KK hK => ?_) AllReadyH.nil
      rw [if_pos (by rfl)]
      go_simp
      refine hK.out _ _ (HKQ.out _ ((Chg.of_below hbZ).drewN 1)) (fun hHeld => ?_)
      clear hK KK
      try simp only [Act.put, List.getElem_toArray, List.getElem_cons_zero, List.getElem_cons_succ, List.setIfInBounds_toArray, List.set_cons_zero, List.set_cons_succ]
      refine wpAnyH_ready (rs := [7]) (by kernel_rfl) (by simp) ?_
      refine AllReadyH.cons rfl (fun KK hK => ?_) AllReadyH.nil
      rw [if_pos (by rfl)]
      refine wp_append_at _ (.tmp 39) (.tmp 41) 50 rfl B 46 i0 _ 3 24 Try.underlying50 hi0 hz0 hzs hzb rfl (by decide) (.slice a W.length cap) W.length (flatG qeC W) rfl (own_below HLU.out.row (below_drG hbZ) (Nat.le_refl _)) ⟨w.heap.size + 2, 0, none⟩ 1 1 (qeC ⟨last + 1, ea, eb⟩) rfl rfl HnZ.out (qe_one _) (by unfold maxLen; omega) (by omega) (Nat.le_trans hB (Nat.le_trans hcU.size hbZ.size)) ?_
      intro v' w' hown hgr hat
      have hch : Chg U w' (fun k => (Value.slice a W.length cap).ownBlock = some k) := ((Chg.of_below (S := fun k => (Value.slice a W.length cap).ownBlock = some k) hbZ).drewN 1).trans (Chg.of_grown' hgr (fun k e => e)) (fun _ _ e => e)
      have HOW := keepG (own_moreG (x := (⟨last + 1, ea, eb⟩ : Qe)) hown)
      have HAt := keepG hat
      obtain ⟨va, vc, rfl⟩ := own_shape hown
      have Hb1 := keepG (HLU.out.hp.chg hch hap)
      have HN1 := keepG (show Nm w' nb (last + 1) from Hp.chg HNU.out hch hvn)
      have c2w := Hb1.out.cell (j := 2) rfl
      have f2w := Hb1.out.frozen 2
      have HCH := keepG hch
      refine hK.out _ _ (HKQ.out w' (hch.mono (fun k e => .inr e))) (fun hHeld => ?_)
      clear hK KK hown hgr hat
      try simp only [Act.put, List.getElem_toArray, List.getElem_cons_zero, List.getElem_cons_succ, List.setIfInBounds_toArray, List.set_cons_zero, List.set_cons_succ]
      refine tkGo [8, 9] ?_
      repeat (refine tkOne (v := ?_) rfl (by kernel_rfl) (by kernel_rfl) (by kernel_rfl) (fun _ _ _ h => h) (by assumption) (by rfl) ?_ ?_; rotate_left; (intro wy hSw; (try dsimp only at hSw); go_simp; (first | done | with_reducible rfl)); try simp only [Act.put, List.getElem_toArray, List.getElem_cons_zero, List.getElem_cons_succ, List.setIfInBounds_toArray, List.set_cons_zero, List.set_cons_succ])
      refine tkEnd ?_
      refine wpAnyH_ready (rs := [10]) (by kernel_rfl) (by simp) ?_
      refine AllReadyH.cons rfl (fun KK hK => ?_) AllReadyH.nil
      rw [if_pos (by rfl)]
      go_simp
      have hc2 : Chg U (w'.setCell ⟨b, 2, none⟩ (.slice va (W.length + 1) vc)) (bkS b (.slice a W.length cap)) := (HCH.out.mono (fun k e => .inr e)).trans (Chg.set w' b 2 _) (fun k _ e => .inl e)
      have HQ2 := HKQ.out _ hc2
      refine hK.out _ _ HQ2 (fun hHeld => ?_)
      clear hK KK hc2
      try simp only [Act.put, List.getElem_toArray, List.getElem_cons_zero, List.getElem_cons_succ, List.setIfInBounds_toArray, List.set_cons_zero, List.set_cons_succ]
      refine wpAnyH_done (by kernel_rfl) ?_ _
      clear hHeld
      have y0 := HQ2.1
      go_wp2
      go_ret2
      exact laccept_end (U := U) (HAt.out.imp id (fun e => ⟨_, e, hbZ.size⟩)) HOW.out Hb1.out HN1.out hbn ((hcU.mono (fun k e => .inr e)).trans HCH.out (fun k _ e => .inl (.inr e))) hcU.size rfl
  · go_simp
    refine hK.out _ _ (HKE.out _ ((Chg.of_below (S := fun k => k = nb) (below_allocG _ _)).drewN 2)) (fun hHeld => ?_)
    clear hK KK
    try simp only [Act.put, List.getElem_toArray, List.getElem_cons_zero, List.getElem_cons_succ, List.setIfInBounds_toArray, List.set_cons_zero, List.set_cons_succ]
    refine wpAnyH_ready (rs := [4]) (by kernel_rfl) (by simp) ?_
    refine AllReadyH.cons rfl (fun KK hK => ?_) AllReadyH.nil
    rw [if_pos (by rfl)]
    go_simp
    go_at_call 22
    refine (lnext (last := last) (show Nm (X.alloc (.cells #[.int .i64 0, .int .u64 0, .int .u64 0] 46)).drew.drew nb last from Hp.alloc HNX.out _) h0 hla).mono ?_
    rintro e w1 ⟨rfl, rfl⟩
    go_simp
    refine hK.out _ _ (HKE.out _ (((Chg.set X nb 0 (.int .i64 (last + 1))).trans (Chg.of_below (S := fun k => k = nb) (below_allocG _ _)) (fun _ _ e => e)).drewN 2)) (fun hHeld => ?_)
    clear hK KK
    try simp only [Act.put, List.getElem_toArray, List.getElem_cons_zero, List.getElem_cons_succ, List.setIfInBounds_toArray, List.set_cons_zero, List.set_cons_succ]
    refine tkGo [6] ?_
    repeat (refine tkOne (v := ?_) rfl (by kernel_rfl) (by kernel_rfl) (by kernel_rfl) (fun _ _ _ h => h) (by assumption) (by rfl) ?_ ?_; rotate_left; (intro wy hSw; (try dsimp only at hSw); go_simp; (first | done | with_reducible rfl)); try simp only [Act.put, List.getElem_toArray, List.getElem_cons_zero, List.getElem_cons_succ, List.setIfInBounds_toArray, List.set_cons_zero, List.set_cons_succ])
    refine tkEnd ?_
    refine wpAnyH_ready (rs := [8]) (by kernel_rfl) (by simp) ?_
    refine AllReadyH.cons rfl (fun KK hK => ?_) AllReadyH.nil
    rw [if_pos (by rfl)]
    go_simp
    obtain ⟨U, HU, HqU, HLU, HNU, hcU, hzU⟩ : ∃ U, Hid (((X.setCell ⟨nb, 0, none⟩ (.int .i64 (last + 1))).alloc (.cells #[.int .i64 (last + 1), .int .u64 ea, .int .u64 eb] 46)).drew.drew = U) ∧ Hid (Hp U (w.heap.size + 1) 46 (qeC ⟨last + 1, ea, eb⟩)) ∧ Hid (Lk U B b nb (.slice a W.length cap) rm W false rf tk dr) ∧ Hid (Nm U nb (last + 1)) ∧ Chg w U (fun k => k = nb) ∧ U.heap.size = w.heap.size + 2 := by
      have hs : (X.setCell ⟨nb, 0, none⟩ (.int .i64 (last + 1))).heap.size = w.heap.size + 1 := by simp [hzX]
      have h1 := Hp.new (X.setCell ⟨nb, 0, none⟩ (.int .i64 (last + 1))) (qeC ⟨last + 1, ea, eb⟩) 46
      rw [hs] at h1
      have hc := (((Chg.set X nb 0 (.int .i64 (last + 1))).trans (Chg.of_below (S := fun k => k = nb) (below_allocG _ (.cells #[.int .i64 (last + 1), .int .u64 ea, .int .u64 eb] 46))) (fun _ _ e => e)).drewN 2)
      exact ⟨_, rfl, h1, HLX.out.chg hc hbn (fun k hk e => hvn (by rw [hk, e])), Hp.alloc (Nm.next HNX.out) _, (Chg.of_below (S := fun k => k = nb) hbX).trans hc (fun _ _ e => e), by simp [hzX]⟩
    rw [HU.out]
    have hcXU : Chg X U (fun k => k = nb) := by rw [← HU.out]; exact ((Chg.set X nb 0 (.int .i64 (last + 1))).trans (Chg.of_below (S := fun k => k = nb) (below_allocG _ _)) (fun _ _ e => e)).drewN 2
    refine hK.out _ _ (HKE.out _ hcXU) (fun hHeld => ?_)
    clear hK KK
    try simp only [Act.put, List.getElem_toArray, List.getElem_cons_zero, List.getElem_cons_succ, List.setIfInBounds_toArray, List.set_cons_zero, List.set_cons_succ]
    refine wpAnyH_done (by kernel_rfl) ?_ _
    clear hHeld
    have hrlU : ∀ k, (Value.slice a W.length cap).ownBlock = some k → k < w.heap.size := fun k e => (hrl k e).2
    have HKQ : Hid (∀ wx : World, Chg U wx (bkS b (.slice a W.length cap)) → wx.cell? ⟨w.heap.size + 1, 0, none⟩ = some (.int .i64 (last + 1)) ∧ wx.cell? ⟨w.heap.size + 1, 1, none⟩ = some (.int .u64 ea) ∧ wx.cell? ⟨w.heap.size + 1, 2, none⟩ = some (.int .u64 eb)) := fun wx hc => have g := HqU.out.chg hc (fun e => by rcases e with e | e; omega; have := hrlU _ e; omega); ⟨g.cell rfl, g.cell rfl, g.cell rfl⟩
    obtain ⟨Z, HZ, HnZ, hbZ⟩ : ∃ Z, Hid (U.alloc (.cells #[.int .i64 (last + 1), .int .u64 ea, .int .u64 eb] 46) = Z) ∧ Hid (∀ j u, (qeC ⟨last + 1, ea, eb⟩)[j]? = some u → Z.cell? ((⟨w.heap.size + 2, 0, none⟩ : Addr).add j) = some u) ∧ Below U.heap.size U Z := ⟨_, rfl, cells_new U (qeC ⟨last + 1, ea, eb⟩) _ _ hzU.symm, below_allocG _ _⟩
    have c2U := HLU.out.hp.cell (j := 2) rfl
    have c2Z := (HLU.out.hp.below hbZ HLU.out.hp.lt).cell (j := 2) rfl
    clear c0 c1 c2 c3 c4 c5 c6
    go_wp2
    refine wp_region_held_drew (S := fun w' => w'.cell? ⟨w.heap.size + 1, 0, none⟩ = some (.int .i64 (last + 1)) ∧ w'.cell? ⟨w.heap.size + 1, 1, none⟩ = some (.int .u64 ea) ∧ w'.cell? ⟨w.heap.size + 1, 2, none⟩ = some (.int .u64 eb)) (by kernel_rfl) (HKQ.out _ ((Chg.refl U _).drewN 1)) (fun hHeld => ?_)
    refine tkGo [0, 1, 2, 3, 5] ?_
    repeat (refine tkOne (v := ?_) rfl (by kernel_rfl) (by kernel_rfl) (by kernel_rfl) (fun _ _ _ h => h) (by assumption) (by rfl) ?_ ?_; rotate_left; (intro wy hSw; (try dsimp only at hSw); go_simp; (first | done | with_reducible rfl)); try simp only [Act.put, List.getElem_toArray, List.getElem_cons_zero, List.getElem_cons_succ, List.setIfInBounds_toArray, List.set_cons_zero, List.set_cons_succ])
    refine tkEnd ?_
    refine wpAnyH_ready (rs := [4, 6]) (by kernel_rfl) (by simp) ?_
    refine AllReadyH.cons rfl (fun KK hK => ?_) (AllReadyH.cons rfl (fun KK hK => ?_) AllReadyH.nil) <;> rw [if_pos (by rfl)]
    · go_simp
      refine hK.out _ _ (HKQ.out _ ((Chg.refl U _).drewN 1)) (fun hHeld => ?_)
      clear hK KK
      try simp only [Act.put, List.getElem_toArray, List.getElem_cons_zero, List.getElem_cons_succ, List.setIfInBounds_toArray, List.set_cons_zero, List.set_cons_succ]
      refine wpAnyH_ready (rs := [6]) (by kernel_rfl) (by simp) ?_
      refine AllReadyH.cons rfl (fun KK hK => ?_) AllReadyH.nil
      rw [if_pos (by rfl)]
      go_simp
      rw [HZ.out]
      refine hK.out _ _ (HKQ.out _ ((Chg.of_below hbZ).drewN 1)) (fun hHeld => ?_)
      clear hK KK
      try simp only [Act.put, List.getElem_toArray, List.getElem_cons_zero, List.getElem_cons_succ, List.setIfInBounds_toArray, List.set_cons_zero, List.set_cons_succ]
      refine wpAnyH_ready (rs := [7]) (by kernel_rfl) (by simp) ?_
      refine AllReadyH.cons rfl (fun KK hK => ?_) AllReadyH.nil
      rw [if_pos (by rfl)]
      refine wp_append_at _ (.tmp 39) (.tmp 41) 50 rfl B 46 i0 _ 3 24 Try.underlying50 hi0 hz0 hzs hzb rfl (by decide) (.slice a W.length cap) W.length (flatG qeC W) rfl (own_below HLU.out.row (below_drG hbZ) (Nat.le_refl _)) ⟨w.heap.size + 2, 0, none⟩ 1 1 (qeC ⟨last + 1, ea, eb⟩) rfl rfl HnZ.out (qe_one _) (by unfold maxLen; omega) (by omega) (Nat.le_trans hB (Nat.le_trans hcU.size hbZ.size)) ?_
      intro v' w' hown hgr hat
      have hch : Chg U w' (fun k => (Value.slice a W.length cap).ownBlock = some k) := ((Chg.of_below (S := fun k => (Value.slice a W.length cap).ownBlock = some k) hbZ).drewN 1).trans (Chg.of_grown' hgr (fun k e => e)) (fun _ _ e => e)
      have HOW := keepG (own_moreG (x := (⟨last + 1, ea, eb⟩ : Qe)) hown)
      have HAt := keepG hat
      obtain ⟨va, vc, rfl⟩ := own_shape hown
      have Hb1 := keepG (HLU.out.hp.chg hch hap)
      have HN1 := keepG (show Nm w' nb (last + 1) from Hp.chg HNU.out hch hvn)
      have c2w := Hb1.out.cell (j := 2) rfl
      have f2w := Hb1.out.frozen 2
      have HCH := keepG hch
      refine hK.out _ _ (HKQ.out w' (hch.mono (fun k e => .inr e))) (fun hHeld => ?_)
      clear hK KK hown hgr hat
      try simp only [Act.put, List.getElem_toArray, List.getElem_cons_zero, List.getElem_cons_succ, List.setIfInBounds_toArray, List.set_cons_zero, List.set_cons_succ]
      refine tkGo [8, 9] ?_
      repeat (refine tkOne (v := ?_) rfl (by kernel_rfl) (by kernel_rfl) (by kernel_rfl) (fun _ _ _ h => h) (by assumption) (by rfl) ?_ ?_; rotate_left; (intro wy hSw; (try dsimp only at hSw); go_simp; (first | done | with_reducible rfl)); try simp only [Act.put, List.getElem_toArray, List.getElem_cons_zero, List.getElem_cons_succ, List.setIfInBounds_toArray, List.set_cons_zero, List.set_cons_succ])
      refine tkEnd ?_
      refine wpAnyH_ready (rs := [10]) (by kernel_rfl) (by simp) ?_
      refine AllReadyH.cons rfl (fun KK hK => ?_) AllReadyH.nil
      rw [if_pos (by rfl)]
      go_simp
      have hc2 : Chg U (w'.setCell ⟨b, 2, none⟩ (.slice va (W.length + 1) vc)) (bkS b (.slice a W.length cap)) := (HCH.out.mono (fun k e => .inr e)).trans (Chg.set w' b 2 _) (fun k _ e => .inl e)
      have HQ2 := HKQ.out _ hc2
      refine hK.out _ _ HQ2 (fun hHeld => ?_)
      clear hK KK hc2
      try simp only [Act.put, List.getElem_toArray, List.getElem_cons_zero, List.getElem_cons_succ, List.setIfInBounds_toArray, List.set_cons_zero, List.set_cons_succ]
      refine wpAnyH_done (by kernel_rfl) ?_ _
      clear hHeld
      have y0 := HQ2.1
      go_wp2
      go_ret2
      exact laccept_end (U := U) (HAt.out.imp id (fun e => ⟨_, e, hbZ.size⟩)) HOW.out Hb1.out HN1.out hbn ((hcU.mono (fun k e => .inr e)).trans HCH.out (fun k _ e => .inl (.inr e))) hcU.size rfl
    · go_simp
      rw [HZ.out]
      refine hK.out _ _ (HKQ.out _ ((Chg.of_below hbZ).drewN 1)) (fun hHeld => ?_)
      clear hK KK
      try simp only [Act.put, List.getElem_toArray, List.getElem_cons_zero, List.getElem_cons_succ, List.setIfInBounds_toArray, List.set_cons_zero, List.set_cons_succ]
      refine wpAnyH_ready (rs := [4]) (by kernel_rfl) (by simp) ?_
      refine AllReadyH.cons rfl (fun KK hK => ?_) AllReadyH.nil
      rw [if_pos (by rfl)]
      go_simp
      refine hK.out _ _ (HKQ.out _ ((Chg.of_below hbZ).drewN 1)) (fun hHeld => ?_)
      clear hK KK
      try simp only [Act.put, List.getElem_toArray, List.getElem_cons_zero, List.getElem_cons_succ, List.setIfInBounds_toArray, List.set_cons_zero, List.set_cons_succ]
      refine wpAnyH_ready (rs := [7]) (by kernel_rfl) (by simp) ?_
      refine AllReadyH.cons rfl (fun KK hK => ?_) AllReadyH.nil
      rw [if_pos (by rfl)]
      refine wp_append_at _ (.tmp 39) (.tmp 41) 50 rfl B 46 i0 _ 3 24 Try.underlying50 hi0 hz0 hzs hzb rfl (by decide) (.slice a W.length cap) W.length (flatG qeC W) rfl (own_below HLU.out.row (below_drG hbZ) (Nat.le_refl _)) ⟨w.heap.size + 2, 0, none⟩ 1 1 (qeC ⟨last + 1, ea, eb⟩) rfl rfl HnZ.out (qe_one _) (by unfold maxLen; omega) (by omega) (Nat.le_trans hB (Nat.le_trans hcU.size hbZ.size)) ?_
      intro v' w' hown hgr hat
      have hch : Chg U w' (fun k => (Value.slice a W.length cap).ownBlock = some k) := ((Chg.of_below (S := fun k => (Value.slice a W.length cap).ownBlock = some k) hbZ).drewN 1).trans (Chg.of_grown' hgr (fun k e => e)) (fun _ _ e => e)
      have HOW := keepG (own_moreG (x := (⟨last + 1, ea, eb⟩ : Qe)) hown)
      have HAt := keepG hat
      obtain ⟨va, vc, rfl⟩ := own_shape hown
      have Hb1 := keepG (HLU.out.hp.chg hch hap)
      have HN1 := keepG (show Nm w' nb (last + 1) from Hp.chg HNU.out hch hvn)
      have c2w := Hb1.out.cell (j := 2) rfl
      have f2w := Hb1.out.frozen 2
      have HCH := keepG hch
      refine hK.out _ _ (HKQ.out w' (hch.mono (fun k e => .inr e))) (fun hHeld => ?_)
      clear hK KK hown hgr hat
      try simp only [Act.put, List.getElem_toArray, List.getElem_cons_zero, List.getElem_cons_succ, List.setIfInBounds_toArray, List.set_cons_zero, List.set_cons_succ]
      refine tkGo [8, 9] ?_
      repeat (refine tkOne (v := ?_) rfl (by kernel_rfl) (by kernel_rfl) (by kernel_rfl) (fun _ _ _ h => h) (by assumption) (by rfl) ?_ ?_; rotate_left; (intro wy hSw; (try dsimp only at hSw); go_simp; (first | done | with_reducible rfl)); try simp only [Act.put, List.getElem_toArray, List.getElem_cons_zero, List.getElem_cons_succ, List.setIfInBounds_toArray, List.set_cons_zero, List.set_cons_succ])
      refine tkEnd ?_
      refine wpAnyH_ready (rs := [10]) (by kernel_rfl) (by simp) ?_
      refine AllReadyH.cons rfl (fun KK hK => ?_) AllReadyH.nil
      rw [if_pos (by rfl)]
      go_simp
      have hc2 : Chg U (w'.setCell ⟨b, 2, none⟩ (.slice va (W.length + 1) vc)) (bkS b (.slice a W.length cap)) := (HCH.out.mono (fun k e => .inr e)).trans (Chg.set w' b 2 _) (fun k _ e => .inl e)
      have HQ2 := HKQ.out _ hc2
      refine hK.out _ _ HQ2 (fun hHeld => ?_)
      clear hK KK hc2
      try simp only [Act.put, List.getElem_toArray, List.getElem_cons_zero, List.getElem_cons_succ, List.setIfInBounds_toArray, List.set_cons_zero, List.set_cons_succ]
      refine wpAnyH_done (by kernel_rfl) ?_ _
      clear hHeld
      have y0 := HQ2.1
      go_wp2
      go_ret2
      exact laccept_end (U := U) (HAt.out.imp id (fun e => ⟨_, e, hbZ.size⟩)) HOW.out Hb1.out HN1.out hbn ((hcU.mono (fun k e => .inr e)).trans HCH.out (fun k _ e => .inl (.inr e))) hcU.size rfl
end
end Go.Proofs.Ythcdfknadcdfkaa
