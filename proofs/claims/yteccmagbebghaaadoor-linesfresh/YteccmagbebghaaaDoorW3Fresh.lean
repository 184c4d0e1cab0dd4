/-
  The law LinesFresh, walked: it answers true. Conditions: the listed variables read as they are laid; as many instructions as a slice may hold.
-/
import Derived.Test.YteccmagbebghaaaDoorW3Back
import Derived.Laws.OwnMore
namespace Go.Proofs.YteccmagbebghaaaDoor
open Go.RowKit
set_option linter.unusedVariables false
set_option linter.unusedSimpArgs false
set_option maxRecDepth 100000

theorem printB_count (xs : List In) : (printB xs).count 10 = xs.length := by
  induction xs with
  | nil => rfl
  | cons x xs ih =>
    have e : printB (x :: xs) = x.line ++ 10 :: printB xs := by simp [printB]
    have h0 : x.line.count 10 = 0 := List.count_eq_zero.2 fun h => lineL_nl x.op x.d x.a x.b x.imm 10 h rfl
    rw [e, List.count_append, List.count_cons_self, h0, ih, List.length_cons]
    omega
theorem own_far {w w' : World} {base size : Nat} {e : TypeId} {v : Value} {n : Nat} {xs : List Value} {r : Option Nat} (h : w.ownsRow base e size v n xs) (hg : w.grownBy w' r) (hne : ∀ k, v.ownBlock = some k → some k ≠ r) : w'.ownsRow base e size v n xs := by
  obtain ⟨h1, h2 | ⟨g, cap, cur, rfl, hb, hh, hr⟩⟩ := h
  · exact ⟨h1, .inl h2⟩
  · exact ⟨h1, .inr ⟨g, cap, cur, rfl, hb, by rw [hg.block g (Array.getElem?_eq_some_iff.1 hh).1 (hne g rfl)]; exact hh, hr⟩⟩
theorem own_cells5 {w : World} {base g n cap k : Nat} {e : TypeId} {l : List Value} (h : w.ownsRow base e 5 (.slice (some ⟨g, 0, none⟩) n cap) n l) (hk : k < n) : ∃ z0 z1 z2 z3 z4, w.cell? ⟨g, k * 5, none⟩ = some z0 ∧ w.cell? ⟨g, k * 5 + 1, none⟩ = some z1 ∧ w.cell? ⟨g, k * 5 + 2, none⟩ = some z2 ∧ w.cell? ⟨g, k * 5 + 3, none⟩ = some z3 ∧ w.cell? ⟨g, k * 5 + 4, none⟩ = some z4 := by
  have hl : l.length = n * 5 := h.1
  have key : ∀ j, j < 5 → ∃ z, w.cell? ⟨g, k * 5 + j, none⟩ = some z := fun j hj => by
    have hlt : k * 5 + j < l.length := by omega
    exact ⟨l[k * 5 + j], by rw [h.cellAt (k * 5 + j) (by omega)]; exact List.getElem?_eq_getElem hlt⟩
  obtain ⟨z0, h0⟩ := key 0 (by omega)
  obtain ⟨z1, h1⟩ := key 1 (by omega)
  obtain ⟨z2, h2⟩ := key 2 (by omega)
  obtain ⟨z3, h3⟩ := key 3 (by omega)
  obtain ⟨z4, h4⟩ := key 4 (by omega)
  exact ⟨z0, z1, z2, z3, z4, h0, h1, h2, h3, h4⟩
theorem own_store5 {w : World} {base g n cap : Nat} {e : TypeId} {l : List Value} (h : w.ownsRow base e 5 (.slice (some ⟨g, 0, none⟩) n cap) n l) (k : Nat) (v0 v1 v2 v3 v4 : Value) :
    ∃ l', (((((w.setCell ⟨g, k * 5, none⟩ v0).setCell ⟨g, k * 5 + 1, none⟩ v1).setCell ⟨g, k * 5 + 2, none⟩ v2).setCell ⟨g, k * 5 + 3, none⟩ v3).setCell ⟨g, k * 5 + 4, none⟩ v4).ownsRow base e 5 (.slice (some ⟨g, 0, none⟩) n cap) n l' ∧ w.grownBy (((((w.setCell ⟨g, k * 5, none⟩ v0).setCell ⟨g, k * 5 + 1, none⟩ v1).setCell ⟨g, k * 5 + 2, none⟩ v2).setCell ⟨g, k * 5 + 3, none⟩ v3).setCell ⟨g, k * 5 + 4, none⟩ v4) (some g) := by
  have r0 := h.stored (k * 5) v0
  have r1 := r0.1.stored (k * 5 + 1) v1
  have r2 := r1.1.stored (k * 5 + 2) v2
  have r3 := r2.1.stored (k * 5 + 3) v3
  have r4 := r3.1.stored (k * 5 + 4) v4
  exact ⟨_, r4.1, grown_trans r0.2 (grown_trans r1.2 (grown_trans r2.2 (grown_trans r3.2 r4.2)))⟩
theorem two_inst (w : World) (e : TypeId) (n : Nat) (hn : n = w.heap.size) : ∀ j u, (flat [⟨78, 0, 0, 0, 0⟩, ⟨79, 0, 0, 0, 0⟩])[j]? = some u → (w.alloc (.cells #[.int .i64 78, .int .i64 0, .int .i64 0, .int .i64 0, .int .i64 0, .int .i64 79, .int .i64 0, .int .i64 0, .int .i64 0, .int .i64 0] e)).cell? ((⟨n, 0, none⟩ : Addr).add j) = some u := by
  subst hn
  intro j u hu
  have hf : flat [⟨78, 0, 0, 0, 0⟩, ⟨79, 0, 0, 0, 0⟩] = [.int .i64 78, .int .i64 0, .int .i64 0, .int .i64 0, .int .i64 0, .int .i64 79, .int .i64 0, .int .i64 0, .int .i64 0, .int .i64 0] := by simp [flat]
  rw [hf] at hu
  rw [Addr.add_mid, Nat.zero_add, World.cell?_alloc_at _ _ _ _ rfl]
  simpa using hu

set_option maxHeartbeats 4000000 in
theorem fresh_any (v : Value) (xs : List In) (w : World) (h : Laid w) (hv : SeesI w v xs) (hw : ∀ i ∈ xs, i.wf) (hx : xs.length ≤ 3518437208780) (S : List UInt8) (E : Int) (hS : printL xs = (S, E)) (zs : List In) (hz : parseL S = (zs, 0, 0)) (hSl : S.length ≤ 140737488355328) (hSc : S.count 10 * 40 ≤ 140737488355328) (hzl : zs.length ≤ 3518437208780) :
    Calls Tryd.prog 7 #[v] w fun e w' => e = .returned (.bool true) ∧ Below w.heap.size w w' := by
  obtain ⟨i0, hi, hz0, hz1, hz2⟩ := info_parts Tryd.infoInst3
  have HLd : Hid (Laid w) := h
  have HX : Hid (xs.length ≤ 3518437208780) := hx
  have HW : Hid (∀ i ∈ xs, i.wf) := hw
  have HV : Hid (∀ w', Below w.heap.size w w' → SeesI w' v xs) := fun w' hb => hv.below hb
  have HG : Hid (printL xs = (S, E)) := hS
  have HP : Hid (parseL S = (zs, 0, 0)) := hz
  have HSL : Hid (S.length ≤ 140737488355328) := hSl
  have HSC : Hid (S.count 10 * 40 ≤ 140737488355328) := hSc
  clear h hx hw hv hS hz hSl hSc
  obtain ⟨n, HN⟩ : ∃ n, Hid (zs.length = n) := ⟨_, rfl⟩
  rw [HN.out] at hzl
  go_enter Tryd.func7, Tryd.ntmps7
  go_wp2_with (first
    | (go_at_call 9; go_must (refine (lawake _ HLd.out).mono ?_); rintro e w1 ⟨rfl, hB1⟩)
    | (go_at_call 10; have hq := hB1; clear hq; go_must (refine (lprint_any v xs _ (laid_keeps _ _ HLd.out hB1) (HV.out _ hB1) HW.out HX.out).mono ?_); rintro e w2 ⟨rfl, hb2⟩; go_must (rw [HG.out]; have hB2 : Below w.heap.size w w2 := hB1.trans (hb2.mono hB1.size); clear hb2 hB1))
    | (go_at_call 13; have hq := hB2; clear hq; go_must (refine (lparse_wide S _ (laid_keeps _ _ HLd.out hB2) HSL.out HSC.out).mono ?_); rintro e w3 ⟨v3, rfl, hown3, hb3⟩; go_must (rw [HP.out] at hown3 ⊢; simp only [HN.out] at hown3; have hB3 : Below w.heap.size w w3 := hB2.trans (hb3.mono hB2.size); have hB2z := hB2.size; have hz3 := hb3.size; obtain ⟨a3, c3, rfl⟩ := own_shape hown3; clear hb3 hB2))
    | (go_at_call 13; have hq := hB3; clear hq; go_must (refine (lparse_wide S _ (laid_keeps _ _ HLd.out hB3) HSL.out HSC.out).mono ?_); rintro e w4 ⟨v4, rfl, hown4, hb4⟩; go_must (rw [HP.out] at hown4 ⊢; have hB4 : Below w.heap.size w w4 := hB3.trans (hb4.mono hB3.size); have hB3z := hB3.size; have HLT : Hid (∀ k, (Value.slice a3 n c3).ownBlock = some k → w2.heap.size ≤ k ∧ k < w3.heap.size) := hown3.lt; have hown34 := own_below hown3 hb4 (Nat.le_refl _); have hz4 := hb4.size; have HO4 : Hid (w4.ownsRow w3.heap.size 32 5 v4 zs.length (flat zs)) := hown4; clear hb4 hB3 hown3 hown4)))
  have hB4z := hB4.size
  go_loopw [11] (fun i wr => ∃ k : Nat, k ≤ n ∧ i = .int .i64 k ∧ (∃ l, wr.ownsRow w2.heap.size 32 5 (.slice a3 n c3) n l) ∧ w4.grownBy wr (Value.slice a3 n c3).ownBlock) (fun i _ => n - (intOf i).toNat)
  case atStart => exact ⟨0, by omega, rfl, ⟨_, hown34⟩, grown_refl _ _⟩
  case round =>
    obtain ⟨k, hk, rfl, ⟨l, hown⟩, hgr⟩ := hrel
    clear hown34
    by_cases hlt : k < n
    · obtain ⟨g, rfl⟩ : ∃ g, a3 = some ⟨g, 0, none⟩ := by
        rcases hown.2 with ⟨_, h0⟩ | ⟨g, cap, cur, hv, _⟩
        · omega
        · exact ⟨g, by injection hv⟩
      have hcap : n ≤ c3 ∧ c3 ≤ 9223372036854775807 := by
        rcases hown.2 with ⟨_, h0⟩ | ⟨g, cap, cur, hv, _, _, h1, h2, _⟩
        · omega
        · injection hv with _ _ e3
          unfold maxLen at h2
          omega
      obtain ⟨z0, z1, z2, z3, z4, c0, c1, c2, c3', c4⟩ := own_cells5 hown hlt
      have f0 := hown.frozenAt (k * 5)
      have f1 := hown.frozenAt (k * 5 + 1)
      have f2 := hown.frozenAt (k * 5 + 2)
      have f3 := hown.frozenAt (k * 5 + 3)
      have f4 := hown.frozenAt (k * 5 + 4)
      obtain ⟨l', R1, R2⟩ := own_store5 hown k (.int .i64 77) (.int .i64 0) (.int .i64 0) (.int .i64 0) (.int .i64 0)
      have HR1 : Hid (∃ l', _) := ⟨l', R1⟩
      have HR2 : Hid (w4.grownBy _ (Value.slice (some ⟨g, 0, none⟩) n c3).ownBlock) := grown_trans hgr R2
      clear hown hgr R1 R2
      go_wp2
      go_roundw
      case rel => exact ⟨k + 1, by omega, by go_num, HR1.out, HR2.out⟩
      case measure => simp [intOf]; omega
    · have hBr : Below w.heap.size w wr := hB4.grown hgr hB4z (fun k hk => by have := HLT.out k hk; omega)
      have hown4 := own_far HO4.out hgr (fun k hk e => by have h1 := HO4.out.lt k hk; have h2 := HLT.out k e.symm; omega)
      have HO4r : Hid (wr.ownsRow w3.heap.size 32 5 v4 zs.length (flat zs)) := hown4
      have hBrz := hBr.size
      have hgrz := hgr.size
      clear hB4 hgr hown4 HO4
      have HLT4 : Hid (∀ k, v4.ownBlock = some k → w3.heap.size ≤ k ∧ k < wr.heap.size) := HO4r.out.lt
      go_wp2_with (first
        | (go_at_call 13; have hq := hBr; clear hq; go_must (refine (lparse_wide S _ (laid_keeps _ _ HLd.out hBr) HSL.out HSC.out).mono ?_); rintro e w5 ⟨v5, rfl, hown5, hb5⟩; go_must (rw [HP.out] at hown5 ⊢; have hB5 : Below w.heap.size w w5 := hBr.trans (hb5.mono hBr.size); have HO45 : Hid (w5.ownsRow w3.heap.size 32 5 v4 zs.length (flat zs)) := own_below HO4r.out hb5 (Nat.le_refl _); have hown35 := own_below hown hb5 (Nat.le_refl _); have HO5 : Hid (w5.ownsRow wr.heap.size 32 5 v5 zs.length (flat zs)) := hown5; have hz5 := hb5.size; clear hb5 hBr HO4r hown hown5))
        | (at_builtin; have hq := hown35; clear hq; go_must (refine wpList_append_own _ rfl (.tmp 50) (.tmp 53) 22 rfl w2.heap.size 32 i0 (instV 0 0 0 0 0) 5 40 Tryd.underlying22 hi hz0 hz1 hz2 rfl (by decide) _ _ _ rfl (hown35.alloc _) ⟨_, 0, none⟩ 2 2 (flat [⟨78, 0, 0, 0, 0⟩, ⟨79, 0, 0, 0, 0⟩]) rfl rfl (two_inst _ _ _ (by first | rfl | simp)) (flat_one _) (by unfold maxLen; omega) (by omega) (by simp; omega) ?_); intro v6 w6 hown6 hg6 _; go_must (have hB6 : Below w.heap.size w w6 := (hB5.alloc (by omega) _).grown hg6 (by simp; omega) (fun j hj => by have := HLT.out j hj; omega); have HS46 : Hid (SeesI w6 v4 zs) := own_seesI (own_far (HO45.out.alloc _) hg6 (fun k hk e => by have h1 := HLT4.out k hk; have h2 := HLT.out k e.symm; omega)); have HS56 : Hid (SeesI w6 v5 zs) := own_seesI (own_far (HO5.out.alloc _) hg6 (fun k hk e => by have h1 := HO5.out.lt k hk; have h2 := HLT.out k e.symm; omega)); obtain ⟨a6, c6, rfl⟩ := own_shape hown6; clear hg6 hB5 hown6 hown35 HO45 HO5))
        | (go_at_call 12; have hq := hB6; clear hq; go_must (refine (alike_any v4 v5 zs zs _ HS46.out HS56.out).mono ?_); rintro e w8 ⟨rfl, n8, rfl⟩; go_must (rw [sameI_true rfl]; have hB8 := below_drewN hB6 n8; obtain ⟨a4, c4, rfl, _⟩ := HS46.out; rw [HN.out]; clear hB6)))
      go_ret
      exact ⟨retb (by simp), hB8⟩
theorem fresh_walk (v : Value) (xs : List In) (w : World) (hs : SeesI w v xs ∧ ∀ i ∈ xs, i.wf) (hx : xs.length ≤ 3518437208780) (h : Laid w) : Calls Tryd.prog 7 #[v] w fun e w' => e = .returned (.bool true) ∧ Below w.heap.size w w' := by
  rcases Bool.eq_false_or_eq_true (xs.all In.right) with hr | hr
  · exact fresh_any v xs w h hs.1 hs.2 hx (printB xs) 0 (print_right hr) xs (parse_print fun i hi => ⟨by simpa using (List.all_eq_true.1 hr) i hi, hs.2 i hi⟩) (Nat.le_trans (printB_short xs hr) (by omega)) (by rw [printB_count]; omega) hx
  · exact fresh_any v xs w h hs.1 hs.2 hx [] 12 (print_wrong hr) [] rfl (by simp) (by simp) (by simp)
end Go.Proofs.YteccmagbebghaaaDoor
