
/-
  HooksPlays, walked. Condition: none but the arguments' reading.
-/
import Derived.Test.YtknijloificpmaaW19Py
namespace Go.Proofs.Ytknijloificpmaa
open Go.RowKit
set_option linter.unusedVariables false
set_option linter.unusedSimpArgs false
set_option maxRecDepth 100000
/-- In the midst of a region that draws its order one may hold more. -/
theorem wpAnyH_more19 {P : Program} {md : Region.Mode} {ops : Array Oper} {Q : Exit → Act → World → Prop} {S S' : World → Prop} (hS : ∀ w, S' w → S w) : ∀ (fuel : Nat) (listed : Array Bool) (a : Act) (w : World), wpAnyH P md ops Q S' fuel listed a w → wpAnyH P md ops Q S fuel listed a w
  | 0, _, _, _, h => h
  | fuel + 1, _, _, _, h => ⟨h.1, fun i hi => wpOp_mono (fun a' w' h' => ⟨hS _ h'.1, wpAnyH_more19 hS fuel _ a' w' h'.2⟩) (h.2 i hi)⟩
/-- The document's new table. -/
theorem dj_new (w : World) (n : Nat) : Dj (w.alloc (.cells #[.int .i64 n, .int .i64 0, .slice none 0 0] 31)) w.heap.size w.heap.size (fun k => k = w.heap.size) (Tb.new n) 0 := by
  refine ⟨.slice none 0 0, [], ⟨?_, World.ownsRow_nil _ _ _ _, RelT.new n⟩, by simp, ?_⟩
  · have := Hp.new w [.int .i64 n, .int .i64 0, .slice none 0 0] 31
    have e : ((Tb.new n).at'.length) = n := by simp [Tb.new]
    rw [e]
    exact this
  · funext k
    simp [bkS, Value.ownBlock]
theorem hooksPlays_no (n : Int) (sv : Value) (w : World) (h : n < 1 ∨ 4 < n) :
    Calls Try.prog 3 #[.int .i64 n, sv] w fun e w' => e = .returned (.bool true) ∧ Below w.heap.size w w' := by
  go_enter Try.func3, Try.ntmps3
  rcases h with h1 | h1
  · go_wp2_with (first
      | (go_at_call 7; go_must (refine (awake19_any w).mono ?_); rintro e w1 ⟨rfl, hb1⟩)
      | (go_at_call 8; go_must (refine (ltnew_no n (.inl h1) _).mono ?_); rintro e w2 ⟨rfl, rfl⟩))
    go_ret
    exact ⟨rfl, hb1⟩
  · have h0 : ¬ n < 1 := by omega
    go_wp2_with (first
      | (go_at_call 7; go_must (refine (awake19_any w).mono ?_); rintro e w1 ⟨rfl, hb1⟩)
      | (go_at_call 8; go_must (refine (ltnew_no n (.inr h1) _).mono ?_); rintro e w2 ⟨rfl, rfl⟩))
    go_ret
    exact ⟨rfl, hb1⟩
set_option maxHeartbeats 25600000 in
theorem hooksPlays_ok (n : Nat) (hn1 : 1 ≤ n) (h4 : n ≤ 4) (sv : Value) (is : List Ow) (w : World) (hs : Scr w sv is) (hlen : is.length * 48 ≤ 140737488351232) (hsz : ∀ x ∈ is, x.ws.length * 8 ≤ 140737488351232) :
    Calls Try.prog 3 #[.int .i64 n, sv] w fun e w' => e = .returned (.bool true) ∧ Below w.heap.size w w' := by
  have HSC := keepG hs
  have HSZI := keepG hsz
  obtain ⟨a, c, rfl, hc, hm, _, _⟩ := hs.sees
  have hm' : c ≤ 9223372036854775807 := by unfold maxLen at hm; omega
  have hn1I : ¬ (n : Int) < 1 := by omega
  have h4I : ¬ (4 : Int) < n := by omega
  clear hs hm hsz
  go_enter Try.func3, Try.ntmps3
  go_wp2_with (first
    | (go_at_call 7; go_must (refine (awake19_any w).mono ?_); rintro e w1 ⟨rfl, hb1⟩; go_must (have HB1 := keepG hb1; clear hb1))
    | (go_at_call 8; go_must (refine (lznew_ok n hn1 h4 HB1.out).mono ?_); rintro e w2 ⟨b, F0, rfl, hL, _, _⟩; go_must (have HL0 := keepG hL; clear hL; obtain ⟨V, HV, hbV, HDV⟩ : ∃ V, Hid (w2.alloc (.cells #[.int .i64 n, .int .i64 0, .slice none 0 0] 31) = V) ∧ Below w2.heap.size w2 V ∧ Hid (Dj V w2.heap.size w2.heap.size (fun k => k = w2.heap.size) (Tb.new n) 0) := ⟨_, rfl, below_allocG _ _, dj_new w2 n⟩))
    | (rw [HV.out]))
  have HPQ : Hid (Pq w V b w2.heap.size F0 (fun k => k = w2.heap.size) (Tb.new n) (Tb.new n) 0) := ⟨HL0.out.below hbV, ⟨_, hbV.size, HDV.out⟩, Tb.Ok.new hn1 h4, (fun k e => by rw [e]; exact HL0.out.be.size), (fun k e1 e2 => by have := HL0.out.lies k e1; omega)⟩
  obtain ⟨d, HDD⟩ : ∃ d, Hid (w2.heap.size = d) := ⟨_, rfl⟩
  rw [HDD.out] at HPQ
  rw [HDD.out]
  clear HDV HV hbV HDD
  go_loopw [8] (fun i wr => ∃ j : Nat, j ≤ is.length ∧ j ≤ 300 ∧ i = .int .i64 j ∧ ∃ F G t, Hid (Pq w wr b d F G t t (4 * j) ∧ t.last ≤ j)) (fun i _ => is.length - (intOf i).toNat)
  case atStart => exact ⟨0, by omega, by omega, rfl, F0, _, _, HPQ.out, by show (0 : Int) ≤ _; omega⟩
  case round =>
    obtain ⟨j, hj, hj2, rfl, F, G, t, HM⟩ := hrel
    rename World => wr
    by_cases hlt : j < is.length
    · have hltI : (j : Int) < is.length := by omega
      by_cases hj3 : j < 300
      · have hj3I : (j : Int) < 300 := by omega
        obtain ⟨o, HO⟩ : ∃ o, Hid (is.getD j Ow.nil = o) := ⟨_, rfl⟩
        have hzw := HSZI.out _ (getD_memW is j hlt)
        rw [HO.out] at hzw
        have HAT := keepG (fun (wx : World) (hb : Below w.heap.size w wx) => HSC.out.at hb hlt HO.out)
        obtain ⟨p, off, cap, ev, _, _, ⟨d0, d1, d2, d3⟩, hsu, hlu, hwf⟩ := HSC.out.at HM.out.1.la.be hlt HO.out
        simp only [Value.slice.injEq, true_and] at ev
        obtain ⟨rfl, rfl⟩ := ev
        obtain ⟨ok, ox, op, ou, ow⟩ := o
        simp only at d0 d1 d2 d3 hsu hlu hwf hzw
        obtain ⟨oa, oc, ev⟩ := hsu.shape
        subst ev
        have HLU := keepG hlu
        have HWF := keepG hwf
        have HZW := keepG hzw
        have HCE : Hid (∀ wx : World, Below w.heap.size w wx → (wx.cell? ⟨p, off + j * 4, none⟩ = some (.int .i64 ok) ∧ wx.cell? ⟨p, off + j * 4 + 1, none⟩ = some (.int .i64 ox) ∧ wx.cell? ⟨p, off + j * 4 + 2, none⟩ = some (.int .i64 op) ∧ wx.cell? ⟨p, off + j * 4 + 3, none⟩ = some (.slice oa ow.length oc)) ∧ Sees .i64 wx (.slice oa ow.length oc) ow) := by
          intro wx hb
          obtain ⟨p2, off2, cap2, ev2, _, _, e1, e2, _⟩ := HAT.out wx hb
          simp only [Value.slice.injEq, Option.some.injEq, Addr.mk.injEq, and_true, true_and] at ev2
          obtain ⟨⟨rfl, rfl⟩, rfl⟩ := ev2
          exact ⟨e1, e2⟩
        have HMd := keepG (HM.out.1.below (below_drG (Below.refl _ _)))
        have hla := HM.out.2
        clear hsu hlu hwf hzw HAT
        go_wp2
        refine wp_region_held_drew (S := fun w' => w'.cell? ⟨p, off + j * 4, none⟩ = some (.int .i64 ok) ∧ w'.cell? ⟨p, off + j * 4 + 1, none⟩ = some (.int .i64 ox) ∧ w'.cell? ⟨p, off + j * 4 + 2, none⟩ = some (.int .i64 op) ∧ w'.cell? ⟨p, off + j * 4 + 3, none⟩ = some (.slice oa ow.length oc)) (by kernel_rfl) ⟨d0, d1, d2, d3⟩ (fun hHeld => ?_)
        refine wpAnyH_take (i := 0) (v := ?v1) rfl (by kernel_rfl) (by kernel_rfl) (by kernel_rfl) (fun _ _ _ h => h) (Or.inl ⟨by rfl, ?hy1⟩) (by assumption) ?rest1
        case hy1 => (intro wy hSw; (try dsimp only at hSw); go_simp; (first | done | with_reducible rfl))
        try simp only [Act.put, List.getElem_toArray, List.getElem_cons_zero, List.getElem_cons_succ, List.setIfInBounds_toArray, List.set_cons_zero, List.set_cons_succ]
        refine wpAnyH_take (i := 1) (v := ?v2) rfl (by kernel_rfl) (by kernel_rfl) (by kernel_rfl) (fun _ _ _ h => h) (Or.inl ⟨by rfl, ?hy2⟩) (by assumption) ?rest2
        case hy2 => (intro wy hSw; (try dsimp only at hSw); go_simp; (first | done | with_reducible rfl))
        try simp only [Act.put, List.getElem_toArray, List.getElem_cons_zero, List.getElem_cons_succ, List.setIfInBounds_toArray, List.set_cons_zero, List.set_cons_succ]
        refine wpAnyH_take (i := 2) (v := ?v3) rfl (by kernel_rfl) (by kernel_rfl) (by kernel_rfl) (fun _ _ _ h => h) (Or.inl ⟨by rfl, ?hy3⟩) (by assumption) ?rest3
        case hy3 => (intro wy hSw; (try dsimp only at hSw); go_simp; (first | done | with_reducible rfl))
        try simp only [Act.put, List.getElem_toArray, List.getElem_cons_zero, List.getElem_cons_succ, List.setIfInBounds_toArray, List.set_cons_zero, List.set_cons_succ]
        refine wpAnyH_take (i := 3) (v := ?v4) rfl (by kernel_rfl) (by kernel_rfl) (by kernel_rfl) (fun _ _ _ h => h) (Or.inl ⟨by rfl, ?hy4⟩) (by assumption) ?rest4
        case hy4 => (intro wy hSw; (try dsimp only at hSw); go_simp; (first | done | with_reducible rfl))
        try simp only [Act.put, List.getElem_toArray, List.getElem_cons_zero, List.getElem_cons_succ, List.setIfInBounds_toArray, List.set_cons_zero, List.set_cons_succ]
        refine wpAnyH_take (i := 4) (v := ?v5) rfl (by kernel_rfl) (by kernel_rfl) (by kernel_rfl) (fun _ _ _ h => h) (Or.inl ⟨by rfl, ?hy5⟩) (by assumption) ?rest5
        case hy5 => (intro wy hSw; (try dsimp only at hSw); go_simp; (first | done | with_reducible rfl))
        try simp only [Act.put, List.getElem_toArray, List.getElem_cons_zero, List.getElem_cons_succ, List.setIfInBounds_toArray, List.set_cons_zero, List.set_cons_succ]
        refine wpAnyH_take (i := 5) (v := ?v6) rfl (by kernel_rfl) (by kernel_rfl) (by kernel_rfl) (fun _ _ _ h => h) (Or.inl ⟨by rfl, ?hy6⟩) (by assumption) ?rest6
        case hy6 => (intro wy hSw; (try dsimp only at hSw); go_simp; (first | done | with_reducible rfl))
        try simp only [Act.put, List.getElem_toArray, List.getElem_cons_zero, List.getElem_cons_succ, List.setIfInBounds_toArray, List.set_cons_zero, List.set_cons_succ]
        refine wpAnyH_ready (rs := [6]) (by kernel_rfl) (by simp) ?_
        refine AllReadyH.cons rfl (fun KK hK => ?_) AllReadyH.nil
        rw [if_pos (by rfl)]
        go_simp
        go_at_call 9
        refine (plays19 HMd.out (by omega) (by omega) (fun wx hb => (HCE.out wx hb).2) (fun hne k hk => HLU.out hne k hk) HWF.out HZW.out).mono ?_
        rintro e w6 ⟨rfl, F6, G6, t6, hp6, hl6, _⟩
        have HP6 := keepG hp6
        have HL6 : Hid (t6.last ≤ (j : Int) + 1) := by show _ ≤ _; omega
        have cd := HP6.out.cellD
        obtain ⟨la, HLA⟩ : ∃ la, Hid (t6.last = la) := ⟨_, rfl⟩
        rw [HLA.out] at cd
        have hll : (la != la) = false := by simp
        have HLC : Hid (∀ (w0 : World), Below w6.heap.size w6 w0 → Calls Try.prog 10 #[.pointer (some ⟨b, 0, none⟩)] w0 fun e w' => e = .returned (.int .i64 la) ∧ w0 = w') := by
          intro w0 hb
          rw [← HLA.out]
          exact (HP6.out.la.below hb).last
        go_simp
        have hS6 := (HCE.out _ HP6.out.la.be).1
        refine hK.out _ _ hS6 (fun hHeld => ?_)
        clear hK KK hp6 hl6
        try simp only [Act.put, List.getElem_toArray, List.getElem_cons_zero, List.getElem_cons_succ, List.setIfInBounds_toArray, List.set_cons_zero, List.set_cons_succ]
        refine wpAnyH_more19 (S' := fun w' => (w'.cell? ⟨p, off + j * 4, none⟩ = some (.int .i64 ok) ∧ w'.cell? ⟨p, off + j * 4 + 1, none⟩ = some (.int .i64 ox) ∧ w'.cell? ⟨p, off + j * 4 + 2, none⟩ = some (.int .i64 op) ∧ w'.cell? ⟨p, off + j * 4 + 3, none⟩ = some (.slice oa ow.length oc)) ∧ w'.cell? ⟨d, 1, none⟩ = some (.int .i64 la)) (fun w' hw => hw.1) _ _ _ _ ?_
        have hH2 := And.intro hS6 cd
        refine wpAnyH_take (i := 7) (v := ?v7) rfl (by kernel_rfl) (by kernel_rfl) (by kernel_rfl) (fun _ _ _ h => h) (Or.inl ⟨by rfl, ?hy7⟩) (by assumption) ?rest7
        case hy7 => (intro wy hSw; (try dsimp only at hSw); go_simp; (first | done | with_reducible rfl))
        try simp only [Act.put, List.getElem_toArray, List.getElem_cons_zero, List.getElem_cons_succ, List.setIfInBounds_toArray, List.set_cons_zero, List.set_cons_succ]
        refine wpAnyH_take (i := 8) (v := ?v8) rfl (by kernel_rfl) (by kernel_rfl) (by kernel_rfl) (fun _ _ _ h => h) (Or.inl ⟨by rfl, ?hy8⟩) (by assumption) ?rest8
        case hy8 => (intro wy hSw; (try dsimp only at hSw); go_simp; (first | done | with_reducible rfl))
        try simp only [Act.put, List.getElem_toArray, List.getElem_cons_zero, List.getElem_cons_succ, List.setIfInBounds_toArray, List.set_cons_zero, List.set_cons_succ]
        refine wpAnyH_take (i := 9) (v := ?v9) rfl (by kernel_rfl) (by kernel_rfl) (by kernel_rfl) (fun _ _ _ h => h) (Or.inl ⟨by rfl, ?hy9⟩) (by assumption) ?rest9
        case hy9 => (intro wy hSw; (try dsimp only at hSw); go_simp; (first | done | with_reducible rfl))
        try simp only [Act.put, List.getElem_toArray, List.getElem_cons_zero, List.getElem_cons_succ, List.setIfInBounds_toArray, List.set_cons_zero, List.set_cons_succ]
        refine wpAnyH_take (i := 10) (v := ?v10) rfl (by kernel_rfl) (by kernel_rfl) (by kernel_rfl) (fun _ _ _ h => h) (Or.inl ⟨by rfl, ?hy10⟩) (by assumption) ?rest10
        case hy10 => (intro wy hSw; (try dsimp only at hSw); go_simp; (first | done | with_reducible rfl))
        try simp only [Act.put, List.getElem_toArray, List.getElem_cons_zero, List.getElem_cons_succ, List.setIfInBounds_toArray, List.set_cons_zero, List.set_cons_succ]
        refine wpAnyH_take (i := 11) (v := ?v11) rfl (by kernel_rfl) (by kernel_rfl) (by kernel_rfl) (fun _ _ _ h => h) (Or.inl ⟨by rfl, ?hy11⟩) (by assumption) ?rest11
        case hy11 => (intro wy hSw; (try dsimp only at hSw); go_simp; (first | done | with_reducible rfl))
        try simp only [Act.put, List.getElem_toArray, List.getElem_cons_zero, List.getElem_cons_succ, List.setIfInBounds_toArray, List.set_cons_zero, List.set_cons_succ]
        refine wpAnyH_take (i := 13) (v := ?v12) rfl (by kernel_rfl) (by kernel_rfl) (by kernel_rfl) (fun _ _ _ h => h) (Or.inl ⟨by rfl, ?hy12⟩) (by assumption) ?rest12
        case hy12 => (intro wy hSw; (try dsimp only at hSw); go_simp; (first | done | with_reducible rfl))
        try simp only [Act.put, List.getElem_toArray, List.getElem_cons_zero, List.getElem_cons_succ, List.setIfInBounds_toArray, List.set_cons_zero, List.set_cons_succ]
        refine wpAnyH_take (i := 14) (v := ?v13) rfl (by kernel_rfl) (by kernel_rfl) (by kernel_rfl) (fun _ _ _ h => h) (Or.inl ⟨by rfl, ?hy13⟩) (by assumption) ?rest13
        case hy13 => (intro wy hSw; (try dsimp only at hSw); go_simp; (first | done | with_reducible rfl))
        try simp only [Act.put, List.getElem_toArray, List.getElem_cons_zero, List.getElem_cons_succ, List.setIfInBounds_toArray, List.set_cons_zero, List.set_cons_succ]
        refine wpAnyH_take (i := 15) (v := ?v14) rfl (by kernel_rfl) (by kernel_rfl) (by kernel_rfl) (fun _ _ _ h => h) (Or.inl ⟨by rfl, ?hy14⟩) (by assumption) ?rest14
        case hy14 => (intro wy hSw; (try dsimp only at hSw); go_simp; (first | done | with_reducible rfl))
        try simp only [Act.put, List.getElem_toArray, List.getElem_cons_zero, List.getElem_cons_succ, List.setIfInBounds_toArray, List.set_cons_zero, List.set_cons_succ]
        refine wpAnyH_take (i := 16) (v := ?v15) rfl (by kernel_rfl) (by kernel_rfl) (by kernel_rfl) (fun _ _ _ h => h) (Or.inl ⟨by rfl, ?hy15⟩) (by assumption) ?rest15
        case hy15 => (intro wy hSw; (try dsimp only at hSw); go_simp; (first | done | with_reducible rfl))
        try simp only [Act.put, List.getElem_toArray, List.getElem_cons_zero, List.getElem_cons_succ, List.setIfInBounds_toArray, List.set_cons_zero, List.set_cons_succ]
        refine wpAnyH_ready (rs := [12]) (by kernel_rfl) (by simp) ?_
        refine AllReadyH.cons rfl (fun KK hK => ?_) AllReadyH.nil
        rw [if_pos (by rfl)]
        go_simp
        go_at_call 10
        refine (HLC.out _ (Below.refl _ _)).mono ?_
        rintro e w7 ⟨rfl, rfl⟩
        go_simp
        refine hK.out _ _ hH2 (fun hHeld2 => ?_)
        clear hK KK
        try simp only [Act.put, List.getElem_toArray, List.getElem_cons_zero, List.getElem_cons_succ, List.setIfInBounds_toArray, List.set_cons_zero, List.set_cons_succ]
        refine wpAnyH_take (i := 17) (v := ?v16) rfl (by kernel_rfl) (by kernel_rfl) (by kernel_rfl) (fun _ _ _ h => h) (Or.inl ⟨by rfl, ?hy16⟩) (by assumption) ?rest16
        case hy16 => (intro wy hSw; (try dsimp only at hSw); go_simp; (first | done | with_reducible rfl))
        try simp only [Act.put, List.getElem_toArray, List.getElem_cons_zero, List.getElem_cons_succ, List.setIfInBounds_toArray, List.set_cons_zero, List.set_cons_succ]
        refine wpAnyH_take (i := 18) (v := ?v17) rfl (by kernel_rfl) (by kernel_rfl) (by kernel_rfl) (fun _ _ _ h => h) (Or.inl ⟨by rfl, ?hy17⟩) (by assumption) ?rest17
        case hy17 => (intro wy hSw; (try dsimp only at hSw); go_simp; (first | done | with_reducible rfl))
        try simp only [Act.put, List.getElem_toArray, List.getElem_cons_zero, List.getElem_cons_succ, List.setIfInBounds_toArray, List.set_cons_zero, List.set_cons_succ]
        refine wpAnyH_take (i := 19) (v := ?v18) rfl (by kernel_rfl) (by kernel_rfl) (by kernel_rfl) (fun _ _ _ h => h) (Or.inl ⟨by rfl, ?hy18⟩) (by assumption) ?rest18
        case hy18 => (intro wy hSw; (try dsimp only at hSw); go_simp; (first | done | with_reducible rfl))
        try simp only [Act.put, List.getElem_toArray, List.getElem_cons_zero, List.getElem_cons_succ, List.setIfInBounds_toArray, List.set_cons_zero, List.set_cons_succ]
        refine wpAnyH_take (i := 20) (v := ?v19) rfl (by kernel_rfl) (by kernel_rfl) (by kernel_rfl) (fun _ _ _ h => h) (Or.inl ⟨by rfl, ?hy19⟩) (by assumption) ?rest19
        case hy19 => (intro wy hSw; (try dsimp only at hSw); go_simp; (first | done | with_reducible rfl))
        try simp only [Act.put, List.getElem_toArray, List.getElem_cons_zero, List.getElem_cons_succ, List.setIfInBounds_toArray, List.set_cons_zero, List.set_cons_succ]
        refine wpAnyH_take (i := 21) (v := ?v20) rfl (by kernel_rfl) (by kernel_rfl) (by kernel_rfl) (fun _ _ _ h => h) (Or.inl ⟨by rfl, ?hy20⟩) (by assumption) ?rest20
        case hy20 => (intro wy hSw; (try dsimp only at hSw); go_simp; (first | done | with_reducible rfl))
        try simp only [Act.put, List.getElem_toArray, List.getElem_cons_zero, List.getElem_cons_succ, List.setIfInBounds_toArray, List.set_cons_zero, List.set_cons_succ]
        refine wpAnyH_take (i := 22) (v := ?v21) rfl (by kernel_rfl) (by kernel_rfl) (by kernel_rfl) (fun _ _ _ h => h) (Or.inl ⟨by rfl, ?hy21⟩) (by assumption) ?rest21
        case hy21 => (intro wy hSw; (try dsimp only at hSw); go_simp; (first | done | with_reducible rfl))
        try simp only [Act.put, List.getElem_toArray, List.getElem_cons_zero, List.getElem_cons_succ, List.setIfInBounds_toArray, List.set_cons_zero, List.set_cons_succ]
        refine wpAnyH_take (i := 24) (v := ?v22) rfl (by kernel_rfl) (by kernel_rfl) (by kernel_rfl) (fun _ _ _ h => h) (Or.inl ⟨by rfl, ?hy22⟩) (by assumption) ?rest22
        case hy22 => (intro wy hSw; (try dsimp only at hSw); go_simp; (first | done | with_reducible rfl))
        try simp only [Act.put, List.getElem_toArray, List.getElem_cons_zero, List.getElem_cons_succ, List.setIfInBounds_toArray, List.set_cons_zero, List.set_cons_succ]
        refine wpAnyH_take (i := 25) (v := ?v23) rfl (by kernel_rfl) (by kernel_rfl) (by kernel_rfl) (fun _ _ _ h => h) (Or.inl ⟨by rfl, ?hy23⟩) (by assumption) ?rest23
        case hy23 => (intro wy hSw; (try dsimp only at hSw); go_simp; (first | done | with_reducible rfl))
        try simp only [Act.put, List.getElem_toArray, List.getElem_cons_zero, List.getElem_cons_succ, List.setIfInBounds_toArray, List.set_cons_zero, List.set_cons_succ]
        refine wpAnyH_take (i := 26) (v := ?v24) rfl (by kernel_rfl) (by kernel_rfl) (by kernel_rfl) (fun _ _ _ h => h) (Or.inl ⟨by rfl, ?hy24⟩) (by assumption) ?rest24
        case hy24 => (intro wy hSw; (try dsimp only at hSw); go_simp; (first | done | with_reducible rfl))
        try simp only [Act.put, List.getElem_toArray, List.getElem_cons_zero, List.getElem_cons_succ, List.setIfInBounds_toArray, List.set_cons_zero, List.set_cons_succ]
        refine wpAnyH_take (i := 27) (v := ?v25) rfl (by kernel_rfl) (by kernel_rfl) (by kernel_rfl) (fun _ _ _ h => h) (Or.inl ⟨by rfl, ?hy25⟩) (by assumption) ?rest25
        case hy25 => (intro wy hSw; (try dsimp only at hSw); go_simp; (first | done | with_reducible rfl))
        try simp only [Act.put, List.getElem_toArray, List.getElem_cons_zero, List.getElem_cons_succ, List.setIfInBounds_toArray, List.set_cons_zero, List.set_cons_succ]
        refine wpAnyH_ready (rs := [23]) (by kernel_rfl) (by simp) ?_
        refine AllReadyH.cons rfl (fun KK hK => ?_) AllReadyH.nil
        rw [if_pos (by rfl)]
        go_simp
        go_at_call 10
        refine (HLC.out _ (Below.refl _ _)).mono ?_
        rintro e w8 ⟨rfl, rfl⟩
        go_simp
        refine hK.out _ _ hH2 (fun hHeld3 => ?_)
        clear hK KK
        try simp only [Act.put, List.getElem_toArray, List.getElem_cons_zero, List.getElem_cons_succ, List.setIfInBounds_toArray, List.set_cons_zero, List.set_cons_succ]
        refine wpAnyH_take (i := 28) (v := ?v26) rfl (by kernel_rfl) (by kernel_rfl) (by kernel_rfl) (fun _ _ _ h => h) (Or.inl ⟨by rfl, ?hy26⟩) (by assumption) ?rest26
        case hy26 => (intro wy hSw; (try dsimp only at hSw); go_simp; (first | done | with_reducible rfl))
        try simp only [Act.put, List.getElem_toArray, List.getElem_cons_zero, List.getElem_cons_succ, List.setIfInBounds_toArray, List.set_cons_zero, List.set_cons_succ]
        refine wpAnyH_take (i := 29) (v := ?v27) rfl (by kernel_rfl) (by kernel_rfl) (by kernel_rfl) (fun _ _ _ h => h) (Or.inl ⟨by rfl, ?hy27⟩) (by assumption) ?rest27
        case hy27 => (intro wy hSw; (try dsimp only at hSw); go_simp; (first | done | with_reducible rfl))
        try simp only [Act.put, List.getElem_toArray, List.getElem_cons_zero, List.getElem_cons_succ, List.setIfInBounds_toArray, List.set_cons_zero, List.set_cons_succ]
        refine wpAnyH_done (by kernel_rfl) ?_ _
        clear hHeld hHeld2 hHeld3
        go_wp2
        go_loopw [9] (fun i wz => ∃ z : Int, -1 ≤ z ∧ z ≤ 5 ∧ i = .int .i64 z ∧ Hid (Pq w wz b d F6 G6 t6 t6 (4 * j + 4))) (fun i _ => (5 - intOf i).toNat)
        case atStart => exact ⟨-1, by omega, by omega, rfl, HP6.out⟩
        case round =>
          obtain ⟨z, hz1, hz2, rfl, HZ⟩ := hrel
          rename World => wz
          by_cases hz5 : z < 5
          · obtain ⟨cv, cp, r, HC⟩ : ∃ cv cp r, Hid (t6.cur z = (cv, cp, r)) := ⟨_, _, _, rfl⟩
            have g1 : (cv != cv) = false := by simp
            have g2 : (cp != cp) = false := by simp
            have g3 : (r != r) = false := by cases r <;> rfl
            have hw1 : IntKind.i64.wrap (z + 1) = z + 1 := by rw [IntKind.wrap_i64]; omega
            go_wp2_with (first
              | (go_at_call 11; go_must (refine (HZ.out.la.current z HC).mono ?_); rintro e wa ⟨rfl, hba⟩; go_must (have HZa := keepG (HZ.out.below hba); clear hba))
              | (go_at_call 12; go_must (refine (HZa.out.curD (by omega) z HC).mono ?_); rintro e wb ⟨rfl, hbb⟩; go_must (have HZb := keepG (HZa.out.below hbb); clear hbb)))
            go_roundw
            case rel => exact ⟨z + 1, by omega, by omega, rfl, HZb.out⟩
            case measure => simp [intOf]; omega
          · go_wp2
            go_roundw
            case rel => exact ⟨j + 1, by omega, by omega, by go_num, F6, G6, t6, HZ.out.mono (by omega), by have := HL6.out; omega⟩
            case measure => simp [intOf]; omega
      · have hj3I : ¬ (j : Int) < 300 := by omega
        have HBE := keepG HM.out.1.la.be
        go_wp2
        go_ret
        exact ⟨rfl, HBE.out⟩
    · have hltI : ¬ (j : Int) < is.length := by omega
      have HBE := keepG HM.out.1.la.be
      go_wp2
      go_ret
      exact ⟨rfl, HBE.out⟩
/-- HooksPlays. -/
theorem hooksPlays_walk (n : Int) (sv : Value) (is : List Ow) (w : World) {P0 : Prop} (_ : P0) (hs : Scr w sv is) (hlen : is.length * 48 ≤ 140737488351232 ∧ ∀ x ∈ is, x.ws.length * 8 ≤ 140737488351232) :
    Calls Try.prog 3 #[.int .i64 n, sv] w fun e w' => e = .returned (.bool true) ∧ Below w.heap.size w w' := by
  by_cases h : n < 1 ∨ 4 < n
  · exact hooksPlays_no n sv w h
  · obtain ⟨m, rfl⟩ : ∃ m : Nat, n = m := ⟨n.toNat, by omega⟩
    exact hooksPlays_ok m (by omega) (by omega) sv is w hs hlen.1 hlen.2
end Go.Proofs.Ytknijloificpmaa
