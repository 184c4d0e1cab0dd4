
/-
  The document's kern of layer 21: Fair. Condition: it lies where the pointer says, its picks are the call's own.
-/
import Derived.Test.YtnjmajcjdkceoaaTk
import Derived.Test.YtnjmajcjdkceoaaK21DC
namespace Go.Proofs.Ytnjmajcjdkceoaa
open Go.RowKit
set_option linter.unusedVariables false
set_option linter.unusedSimpArgs false
set_option maxRecDepth 100000
/-- Whom the going through has found so far, and its turn. -/
def bestS (f : Int → Nat) (l : List Int) : Nat → Int × Nat
  | 0 => (0, 0)
  | i + 1 => if i = 0 ∨ f (l.getD i 0) < (bestS f l i).2 then (l.getD i 0, f (l.getD i 0)) else bestS f l i
theorem bestS_fold (f : Int → Nat) (x : Int) (r : List Int) : ∀ i, i ≤ r.length → bestS f (x :: r) (i + 1) = (r.take i).foldl (bestF f) (x, f x)
  | 0, _ => by simp [bestS]
  | i + 1, h => by
    have ih := bestS_fold f x r i (by omega)
    have ht : r.take (i + 1) = r.take i ++ [r.getD i 0] := take_at r i (by omega)
    rw [ht, List.foldl_append, ← ih]
    show (if i + 1 = 0 ∨ f ((x :: r).getD (i + 1) 0) < (bestS f (x :: r) (i + 1)).2 then ((x :: r).getD (i + 1) 0, f ((x :: r).getD (i + 1) 0)) else bestS f (x :: r) (i + 1)) = bestF f (bestS f (x :: r) (i + 1)) (r.getD i 0)
    have e : (x :: r).getD (i + 1) 0 = r.getD i 0 := by simp [List.getD]
    rw [e]
    unfold bestF
    by_cases hb : f (r.getD i 0) < (bestS f (x :: r) (i + 1)).2
    · rw [if_pos (.inr hb), if_pos hb]
    · rw [if_neg (by rintro (q | q); · omega
                     · exact hb q), if_neg hb]
theorem bestS_all (f : Int → Nat) {l : List Int} (h : l ≠ []) : best f l = (bestS f l l.length).1 := by
  cases l with
  | nil => exact absurd rfl h
  | cons x r =>
    have := bestS_fold f x r r.length (Nat.le_refl _)
    rw [List.length_cons, this, List.take_length]
    rfl
theorem lastP_take (p : List Int) (q : Nat) (h : q < p.length) (x : Int) : lastP (p.take (q + 1)) x = if p.getD q 0 = x then q + 1 else lastP (p.take q) x := by
  rw [take_at p q h, lastP_more]
  have : (p.take q).length = q := by simp; omega
  rw [this]
section
variable {w w' : World} {B b g : Nat} {v : Value} {K K' : Kn}
theorem RoN.atK {A : List Int} {u : Value} (h : RoN w B u A) {j : Nat} (hj : j < A.length) : ∃ p cap, u = .slice (some ⟨p, 0, none⟩) A.length cap ∧ A.length ≤ cap ∧ ∀ k, k < A.length → w.cell? ⟨p, k, none⟩ = some (.int .i64 (A.getD k 0)) := by
  obtain ⟨p, cap, e, _, _, h1, _, h2, _⟩ := h.cells (by omega)
  exact ⟨p, cap, e, h1, fun k hk => (h2 k hk).1⟩
set_option maxHeartbeats 12800000 in
theorem dfair (h : Dk w B b g v K) (hk : K.Ok) (hB : B ≤ w.heap.size) (hl : K.p.length ≤ 1000000) {t : Int} {r : Bool} (HQ : Hid (K.fair = (t, r, K'))) : Calls Try.prog 18 #[.pointer (some ⟨b, 0, none⟩)] w fun e w' => e = .returned (.tuple #[.int .i64 t, .bool r]) ∧ ∃ v', Dk w' B b g v' K' ∧ Nx w w' (ftK b g v) (ftK b g v') := by
  obtain ⟨i0, hi0, hz0, hzs, hzb⟩ := info_parts infoIntN
  have HD0 := keepG h
  obtain ⟨l, HL⟩ : ∃ l, Hid (K.inM 1 = l) := ⟨_, rfl⟩
  have hll : l.length ≤ 64 := by rw [← HL.out]; have := K.inM_len 1; have := hk.len.2; omega
  have hq := Kn.fair_parts HQ.out
  rw [HL.out] at hq
  clear h HQ
  rcases hq with ⟨q1, q2, q3, q4⟩ | ⟨q1, q2, q3, q4, q5⟩
  · subst q1 q2 q3 q4
    go_enter Try.func18, Try.ntmps18
    go_wp2_with (go_at_call 21; go_must (refine (din HD0.out hk 1 HL).mono ?_); rintro e w2 ⟨u, rfl, hu, hb2⟩; go_must (obtain ⟨ua, uc, ev⟩ := own_shape hu; subst ev; have HB2 := keepG hb2; clear hu hb2))
    go_ret2
    exact ⟨rfl, v, HD0.out.below HB2.out, Nx.below HB2.out⟩
  · have hn : 0 < l.length := List.length_pos_iff.2 q1
    have hnb : ((l.length : Int) == 0) = false := by simp; omega
    have hn0 : ¬ (l.length : Int) = 0 := by omega
    have HT : Hid ((bestS (lastP K.p) l l.length).1 = t) := by show _ = _; rw [q4, bestS_all _ q1]
    subst q2 q5
    clear q1 q3 q4
    obtain ⟨va, vc, ev⟩ := own_shape HD0.out.row
    subst ev
    obtain ⟨f, HF⟩ : ∃ f, Hid (lastP K.p = f) := ⟨_, rfl⟩
    rw [HF.out] at HT
    go_enter Try.func18, Try.ntmps18
    go_wp2_with (go_at_call 21; go_must (refine (din HD0.out hk 1 HL).mono ?_); rintro e w2 ⟨u, rfl, hu, hb2⟩; go_must (have HU := keepG hu; obtain ⟨pl, lc, ev, hpl, hpl2, hlc, hlm, -, -⟩ := hu.cells hn; subst ev; have HB2 := keepG hb2; have HD2 := keepG (HD0.out.below hb2); have hB2 : B ≤ w2.heap.size := Nat.le_trans hB hb2.size; clear hu hb2))
    have HLC : Hid (∀ wx, Below w2.heap.size w2 wx → ∀ k, k < l.length → wx.cell? ⟨pl, k, none⟩ = some (.int .i64 (l.getD k 0))) := by
      intro wx hb k hk
      obtain ⟨p', c', ev, _, h2⟩ := (HU.out.below hb).atK hk
      simp only [Value.slice.injEq, Option.some.injEq, Addr.mk.injEq, and_true, true_and] at ev
      obtain ⟨rfl, rfl⟩ := ev
      exact h2 k hk
    have HPC : Hid (K.p ≠ [] → ∃ pp, va = some ⟨pp, 0, none⟩ ∧ ∀ wx, Below w2.heap.size w2 wx → ∀ k, k < K.p.length → wx.cell? ⟨pp, k, none⟩ = some (.int .i64 (K.p.getD k 0))) := by
      intro hne
      have hp0 : 0 < K.p.length := List.length_pos_iff.2 hne
      obtain ⟨pp, c', ev, _, _⟩ := (RoN.atK HD2.out.row hp0)
      simp only [Value.slice.injEq, true_and] at ev
      obtain ⟨rfl, rfl⟩ := ev
      refine ⟨pp, rfl, fun wx hb k hk => ?_⟩
      obtain ⟨p', c2, ev2, _, h2⟩ := (RoN.atK (HD2.out.below hb).row hk)
      simp only [Value.slice.injEq, Option.some.injEq, Addr.mk.injEq, and_true, true_and] at ev2
      obtain ⟨rfl, rfl⟩ := ev2
      exact h2 k hk
    go_loopw [5, 6, 7] (fun be wh i wr => ∃ j : Nat, j ≤ l.length ∧ i = .int .i64 j ∧ be = .int .i64 (bestS f l j).1 ∧ wh = .int .i64 (bestS f l j).2 ∧ Hid ((bestS f l j).2 ≤ 1000000) ∧ Hid (Below w2.heap.size w2 wr)) (fun _ _ i _ => l.length - (intOf i).toNat)
    case atStart => exact ⟨0, by omega, rfl, rfl, rfl, by show _ ≤ _; simp [bestS], Below.refl _ _⟩
    case round =>
      obtain ⟨j, hj, rfl, rfl, rfl, HW, HB⟩ := hrel
      rename World => wr
      obtain ⟨be, HBE⟩ : ∃ be, Hid ((bestS f l j).1 = be) := ⟨_, rfl⟩
      obtain ⟨wh, HWH⟩ : ∃ wh, Hid ((bestS f l j).2 = wh) := ⟨_, rfl⟩
      rw [HBE.out, HWH.out]
      rw [HWH.out] at HW
      by_cases hlt : j < l.length
      · have hltI : (j : Int) < l.length := by omega
        obtain ⟨x, HX⟩ : ∃ x, Hid (l.getD j 0 = x) := ⟨_, rfl⟩
        have HST : Hid (bestS f l (j + 1) = if j = 0 ∨ f x < wh then (x, f x) else bestS f l j) := by
          show _ = _
          rw [← HX.out, ← HWH.out]
          rfl
        have HFX : Hid (f x ≤ 1000000) := by show _ ≤ _; rw [← HF.out]; have := lastP_le K.p x; omega
        obtain ⟨c0, c1⟩ := (HD2.out.below HB.out).low
        go_wp2
        go_loopw [8, 9] (fun a i wq => ∃ (A q : Nat), q ≤ K.p.length ∧ a = .int .i64 A ∧ i = .int .i64 q ∧ Hid ((A = 0 ∧ lastP (K.p.take q) x = f x) ∨ (A ≠ 0 ∧ A = f x)) ∧ Hid (A ≤ 1000000) ∧ Hid (Below w2.heap.size w2 wq)) (fun _ i _ => (intOf i).toNat)
        case atStart => exact ⟨0, K.p.length, Nat.le_refl _, rfl, rfl, .inl ⟨rfl, by rw [List.take_length, HF.out]⟩, by show _ ≤ _; omega, HB.out⟩
        case round =>
          obtain ⟨A, q, hq, rfl, rfl, HA, HAL, HBq⟩ := hrel
          rename World => wq
          obtain ⟨e0, e1⟩ := (HD2.out.below HBq.out).low
          have lx := HLC.out wq HBq.out j hlt
          rw [HX.out] at lx
          by_cases hq0 : q = 0
          · subst hq0
            have HAF : Hid (A = f x) := by
              show _ = _
              rcases HA.out with ⟨e1, e2⟩ | ⟨_, e2⟩
              · rw [e1, ← e2]; rfl
              · exact e2
            clear HA c0 c1
            by_cases hj0 : j = 0
            · subst hj0
              have HS2 : Hid (bestS f l (0 + 1) = (x, A)) := by show _ = _; rw [HST.out, if_pos (.inl rfl), HAF.out]
              clear HST HAF
              go_wp2
              go_roundw
              case rel => exact ⟨0 + 1, by omega, by go_num, by rw [HS2.out], by rw [HS2.out], by show _ ≤ _; rw [HS2.out]; exact HAL.out, HBq.out⟩
              case measure => simp [intOf]; omega
            · have hj0b : ((j : Int) == 0) = false := by simp; omega
              have hj0n : ¬ (j : Int) = 0 := by omega
              by_cases hAw : A < wh
              · have hAwI : (A : Int) < wh := by omega
                have HS2 : Hid (bestS f l (j + 1) = (x, A)) := by show _ = _; rw [HST.out, if_pos (.inr (by rw [← HAF.out]; exact hAw)), HAF.out]
                clear HST HAF
                go_wp2
                go_roundw
                case rel => exact ⟨j + 1, by omega, by go_num, by rw [HS2.out], by rw [HS2.out], by show _ ≤ _; rw [HS2.out]; exact HAL.out, HBq.out⟩
                case measure => simp [intOf]; omega
              · have hAwI : ¬ (A : Int) < wh := by omega
                have HS2 : Hid (bestS f l (j + 1) = bestS f l j) := by
                  show _ = _
                  rw [HST.out, if_neg]
                  rintro (e | e)
                  · exact hj0 e
                  · rw [← HAF.out] at e; exact hAw e
                clear HST HAF
                go_wp2
                go_roundw
                case rel => exact ⟨j + 1, by omega, by go_num, by rw [HS2.out, HBE.out], by rw [HS2.out, HWH.out], by show _ ≤ _; rw [HS2.out, HWH.out]; exact HW.out, HBq.out⟩
                case measure => simp [intOf]; omega
          · obtain ⟨k, rfl⟩ : ∃ k, q = k + 1 := ⟨q - 1, by omega⟩
            have hqI : (0 : Int) < (k : Int) + 1 := by omega
            have hqI2 : (0 : Int) < ((k + 1 : Nat) : Int) := by omega
            by_cases hA0 : A = 0
            · subst hA0
              have hne : K.p ≠ [] := fun e => by rw [e] at hq; simp at hq
              obtain ⟨pp, hpp, hpc⟩ := HPC.out hne
              subst hpp
              have hkp : k < K.p.length := by omega
              have hkpI : (k : Int) < K.p.length := by omega
              have pk := hpc wq HBq.out k hkp
              have hlast := lastP_take K.p k hkp x
              obtain ⟨y, HY⟩ : ∃ y, Hid (K.p.getD k 0 = y) := ⟨_, rfl⟩
              rw [HY.out] at pk hlast
              have HA2 : Hid (f x = if y = x then k + 1 else lastP (K.p.take k) x) := by
                show _ = _
                rw [← hlast]
                rcases HA.out with ⟨_, e2⟩ | ⟨e, _⟩
                · exact e2.symm
                · exact absurd rfl e
              have HBd := keepG (below_drG HBq.out)
              have hw0 : IntKind.i64.wrap ((k : Int) + 1 - 1) = (k : Int) := by rw [IntKind.wrap_i64]; omega
              have hwk : IntKind.i64.wrap (k : Int) = (k : Int) := by rw [IntKind.wrap_i64]; omega
              have hw1 : IntKind.i64.wrap (((k + 1 : Nat) : Int) - 1) = (k : Int) := by rw [IntKind.wrap_i64]; omega
              clear hpc hlast HPC c0 c1 HA
              go_wp2
              refine wp_region_held_drew (S := fun w' => w'.cell? ⟨b, 1, none⟩ = some (.slice (some ⟨pp, 0, none⟩) K.p.length vc) ∧ w'.cell? ⟨pp, k, none⟩ = some (.int .i64 y) ∧ w'.cell? ⟨pl, j, none⟩ = some (.int .i64 x)) (by kernel_rfl) ⟨e1, pk, lx⟩ (fun hHeld => ?_)
              refine tkGo [0, 1, 2, 3, 4, 5, 6, 7, 8, 9, 10, 11, 12] ?_
              repeat (refine tkOne (v := ?_) rfl (by kernel_rfl) (by kernel_rfl) (by kernel_rfl) (fun _ _ _ h => h) (by assumption) (by rfl) ?_ ?_; rotate_left; (intro wy hSw; (try dsimp only at hSw); go_simp; (first | done | with_reducible rfl)); try simp only [Act.put, List.getElem_toArray, List.getElem_cons_zero, List.getElem_cons_succ, List.setIfInBounds_toArray, List.set_cons_zero, List.set_cons_succ])
              refine tkEnd ?_
              refine wpAnyH_done (by kernel_rfl) ?_ _
              clear hHeld
              by_cases hy : y = x
              · have hyb : (y == x) = true := by simpa using hy
                have HA3 : Hid (k + 1 ≠ 0 ∧ k + 1 = f x) := ⟨by omega, by rw [HA2.out, if_pos hy]⟩
                clear hy
                go_wp2
                go_roundw
                case rel => exact ⟨k + 1, k, by omega, by first | rfl | go_num, by first | rfl | go_num, .inr HA3.out, by show _ ≤ _; omega, HBd.out⟩
                case measure => first | (simp [intOf]; done) | (simp [intOf]; omega)
              · have hyb : (y == x) = false := by simpa using hy
                have HA3 : Hid (lastP (K.p.take k) x = f x) := by show _ = _; rw [HA2.out, if_neg hy]
                clear hy
                go_wp2
                go_roundw
                case rel => exact ⟨0, k, by omega, rfl, by first | rfl | go_num, .inl ⟨rfl, HA3.out⟩, by show _ ≤ _; omega, HBd.out⟩
                case measure => first | (simp [intOf]; done) | (simp [intOf]; omega)
            · have hA0b : ((A : Int) == 0) = false := by simp; omega
              have hA0n : ¬ (A : Int) = 0 := by omega
              have HAF : Hid (A = f x) := by
                show _ = _
                rcases HA.out with ⟨e1, _⟩ | ⟨_, e2⟩
                · exact absurd e1 hA0
                · exact e2
              clear HA c0 c1 hA0
              by_cases hj0 : j = 0
              · subst hj0
                have HS2 : Hid (bestS f l (0 + 1) = (x, A)) := by show _ = _; rw [HST.out, if_pos (.inl rfl), HAF.out]
                clear HST HAF
                go_wp2
                go_roundw
                case rel => exact ⟨0 + 1, by omega, by go_num, by rw [HS2.out], by rw [HS2.out], by show _ ≤ _; rw [HS2.out]; exact HAL.out, HBq.out⟩
                case measure => simp [intOf]; omega
              · have hj0b : ((j : Int) == 0) = false := by simp; omega
                have hj0n : ¬ (j : Int) = 0 := by omega
                by_cases hAw : A < wh
                · have hAwI : (A : Int) < wh := by omega
                  have HS2 : Hid (bestS f l (j + 1) = (x, A)) := by show _ = _; rw [HST.out, if_pos (.inr (by rw [← HAF.out]; exact hAw)), HAF.out]
                  clear HST HAF
                  go_wp2
                  go_roundw
                  case rel => exact ⟨j + 1, by omega, by go_num, by rw [HS2.out], by rw [HS2.out], by show _ ≤ _; rw [HS2.out]; exact HAL.out, HBq.out⟩
                  case measure => simp [intOf]; omega
                · have hAwI : ¬ (A : Int) < wh := by omega
                  have HS2 : Hid (bestS f l (j + 1) = bestS f l j) := by
                    show _ = _
                    rw [HST.out, if_neg]
                    rintro (e | e)
                    · exact hj0 e
                    · rw [← HAF.out] at e; exact hAw e
                  clear HST HAF
                  go_wp2
                  go_roundw
                  case rel => exact ⟨j + 1, by omega, by go_num, by rw [HS2.out, HBE.out], by rw [HS2.out, HWH.out], by show _ ≤ _; rw [HS2.out, HWH.out]; exact HW.out, HBq.out⟩
                  case measure => simp [intOf]; omega
      · have hltI : ¬ (j : Int) < l.length := by omega
        have ht : be = t := by rw [← HT.out, ← HBE.out, show j = l.length by omega]
        subst ht
        have HDr := keepG (HD2.out.below HB.out)
        obtain ⟨c0, c1⟩ := HDr.out.low
        have hBr : B ≤ wr.heap.size := Nat.le_trans hB2 HB.out.size
        clear HT HBE HWH HW
        go_wp2_with (at_builtin; go_must (refine wpList_append_own_at _ rfl _ _ 29 rfl B 3 i0 _ 1 8 Try.underlying29 hi0 hz0 hzs hzb rfl (by decide) (.slice va K.p.length vc) K.p.length (iCK K.p) rfl (HDr.out.row.below (below_allocG _ _)) ⟨_, 0, none⟩ 1 1 [.int .i64 be] rfl rfl (cell_one_new _ _ _) (one_cell _ _) (by unfold maxLen; omega) (by omega) (by simp; omega) ?_); intro v8 w8 hown hgr _ hat; go_must (have hch : Chg wr w8 (fun k => (Value.slice va K.p.length vc).ownBlock = some k) := chg_append hgr; have HM := keepG (dkmore (t := be) HDr.out hown hch (hat.elim .inl (fun q => .inr ⟨_, q, by simp⟩))); have hp8 := HDr.out.hp.chg hch (fun e => HDr.out.apartR e); have c1w := hp8.cell (j := 1) rfl; have f1w := hp8.frozen 1; obtain ⟨va8, vc8, ev8⟩ := own_shape hown; subst ev8; clear hown hgr hat hch hp8))
        go_ret2
        exact ⟨rfl, _, HM.out.1, (Nx.below (HB2.out.trans (HB.out.mono HB2.out.size))).trans HM.out.2⟩
end
end Go.Proofs.Ytnjmajcjdkceoaa
