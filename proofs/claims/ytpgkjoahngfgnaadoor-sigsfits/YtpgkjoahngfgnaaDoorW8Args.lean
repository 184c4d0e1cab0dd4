/-
  The law SigsArgs, walked: it answers true. Condition: the package-level variable 'names' reads as it is laid.
-/
import Derived.Test.YtpgkjoahngfgnaaDoorT8Alike
import Derived.Laws.OwnMore
namespace Go.Proofs.YtpgkjoahngfgnaaDoor
open Go.RowKit
set_option linter.unusedVariables false
set_option maxRecDepth 100000

theorem own_far {w w' : World} {base size : Nat} {e : TypeId} {v : Value} {n : Nat} {xs : List Value} {r : Option Nat} (h : w.ownsRow base e size v n xs) (hg : w.grownBy w' r) (hne : ∀ k, v.ownBlock = some k → some k ≠ r) : w'.ownsRow base e size v n xs := by
  obtain ⟨h1, h2 | ⟨g, cap, cur, rfl, hb, hh, hr⟩⟩ := h
  · exact ⟨h1, .inl h2⟩
  · exact ⟨h1, .inr ⟨g, cap, cur, rfl, hb, by rw [hg.block g (Array.getElem?_eq_some_iff.1 hh).1 (hne g rfl)]; exact hh, hr⟩⟩
theorem own_cells4 {w : World} {base g n cap k : Nat} {e : TypeId} {l : List Value} (h : w.ownsRow base e 4 (.slice (some ⟨g, 0, none⟩) n cap) n l) (hk : k < n) : ∃ z0 z1 z2 z3, w.cell? ⟨g, k * 4, none⟩ = some z0 ∧ w.cell? ⟨g, k * 4 + 1, none⟩ = some z1 ∧ w.cell? ⟨g, k * 4 + 2, none⟩ = some z2 ∧ w.cell? ⟨g, k * 4 + 3, none⟩ = some z3 := by
  have hl : l.length = n * 4 := h.1
  have key : ∀ j, j < 4 → ∃ z, w.cell? ⟨g, k * 4 + j, none⟩ = some z := fun j hj => by
    have hlt : k * 4 + j < l.length := by omega
    exact ⟨l[k * 4 + j], by rw [h.cellAt (k * 4 + j) (by omega)]; exact List.getElem?_eq_getElem hlt⟩
  obtain ⟨z0, h0⟩ := key 0 (by omega)
  obtain ⟨z1, h1⟩ := key 1 (by omega)
  obtain ⟨z2, h2⟩ := key 2 (by omega)
  obtain ⟨z3, h3⟩ := key 3 (by omega)
  exact ⟨z0, z1, z2, z3, h0, h1, h2, h3⟩
theorem own_store4 {w : World} {base g n cap : Nat} {e : TypeId} {l : List Value} (h : w.ownsRow base e 4 (.slice (some ⟨g, 0, none⟩) n cap) n l) (k : Nat) (v0 v1 v2 v3 : Value) :
    ∃ l', ((((w.setCell ⟨g, k * 4, none⟩ v0).setCell ⟨g, k * 4 + 1, none⟩ v1).setCell ⟨g, k * 4 + 2, none⟩ v2).setCell ⟨g, k * 4 + 3, none⟩ v3).ownsRow base e 4 (.slice (some ⟨g, 0, none⟩) n cap) n l' ∧ w.grownBy ((((w.setCell ⟨g, k * 4, none⟩ v0).setCell ⟨g, k * 4 + 1, none⟩ v1).setCell ⟨g, k * 4 + 2, none⟩ v2).setCell ⟨g, k * 4 + 3, none⟩ v3) (some g) := by
  have r0 := h.stored (k * 4) v0
  have r1 := r0.1.stored (k * 4 + 1) v1
  have r2 := r1.1.stored (k * 4 + 2) v2
  have r3 := r2.1.stored (k * 4 + 3) v3
  exact ⟨_, r3.1, grown_trans r0.2 (grown_trans r1.2 (grown_trans r2.2 r3.2))⟩
theorem own_shapeT {w : World} {base size n : Nat} {e : TypeId} {v : Value} {xs : List Value} (h : w.ownsRow base e size v n xs) : ∃ a c, v = .slice a n c := by
  obtain ⟨_, ⟨rfl, rfl⟩ | ⟨g, cap, cur, rfl, _⟩⟩ := h
  · exact ⟨none, 0, rfl⟩
  · exact ⟨_, cap, rfl⟩
theorem argsL_len (h : Int) : (argsL h).length ≤ 3 := by
  unfold argsL
  repeat' split
  all_goals simp
theorem own_seesN {w : World} {base n : Nat} {e : TypeId} {v : Value} {xs : List Ty} (hn : xs.length = n) (h : w.ownsRow base e 4 v n (flatT xs)) : SeesT w v xs := by
  subst hn; exact own_seesT h
/-- What append hands on of one type. -/
theorem one_typeT (w : World) (e : TypeId) (g : Nat) (hg : g = w.heap.size) (t : Ty) : ∀ j u, (flatT [t])[j]? = some u → (w.alloc (.cells #[.int .i64 t.k, .int .u64 t.lo, .int .u64 t.hi, .int .i64 t.m] e)).cell? ((⟨g, 0, none⟩ : Addr).add j) = some u := by
  subst hg
  intro j u hu
  have hf : flatT [t] = [.int .i64 t.k, .int .u64 t.lo, .int .u64 t.hi, .int .i64 t.m] := by simp [flatT]
  rw [hf] at hu
  rw [Addr.add_mid, Nat.zero_add, World.cell?_alloc_at _ _ _ _ rfl]
  simpa using hu

set_option maxHeartbeats 4000000 in
theorem args_walk (h : Int) (w : World) (_ : -9223372036854775808 ≤ h ∧ h ≤ 9223372036854775807) (hn : Named w) : Calls Tryd.prog 4 #[.int .i64 h] w fun e w' => e = .returned (.bool true) ∧ Below w.heap.size w w' := by
  have HN : Hid (Named w) := hn
  obtain ⟨i0, hi, hz0, hz1, hz2⟩ := infoT_parts
  clear hn
  go_enter Tryd.func4, Tryd.ntmps4
  go_wp2_with (first
    | (go_at_call 8; go_must (refine (awake_any _ HN.out).mono ?_); rintro e w1 ⟨rfl, hB1⟩))
  go_loopw [3] (fun i wr => ∃ k : Int, -1 ≤ k ∧ k ≤ 9 ∧ i = .int .i64 k ∧ Below w.heap.size w wr) (fun i _ => (9 - intOf i).toNat)
  case atStart => exact ⟨-1, by omega, by omega, rfl, hB1⟩
  case round =>
    clear hB1
    obtain ⟨k, hk0, hk9, rfl, hbr⟩ := hrel
    rename World => w0
    have hz0' := hbr.size
    by_cases hlt : k < 9
    case neg =>
      obtain rfl : k = 9 := by omega
      go_wp2
      go_ret
      exact ⟨rfl, hbr⟩
    by_cases hk8 : k = 8
    case pos =>
      subst hk8
      clear hk0 hk9 hlt
      obtain ⟨ts, HTS⟩ : ∃ ts, Hid (ts = argsL h) := ⟨_, rfl⟩
      obtain ⟨n, HL⟩ : ∃ n, Hid (ts.length = n) := ⟨_, rfl⟩
      have hn3 : n ≤ 3 := by rw [← HL.out, HTS.out]; exact argsL_len _
      have K1 : Hid True := trivial
      have K2 : Hid True := trivial
      have K3 : Hid True := trivial
      have K4 : Hid True := trivial
      go_wp2_with (first
        | (go_at_call 17; (have hq := K1; clear hq); go_must (refine (args_any h _).mono ?_); rintro e wa ⟨ua, rfl, hownA, hba⟩; go_must (rw [← HTS.out, HL.out] at hownA; obtain ⟨a1, c1, rfl⟩ := own_shapeT hownA; have hBa := hbr.trans (hba.mono hz0'); have hza := hba.size; clear hba K1))
        | (go_at_call 17; (have hq := K2; clear hq); go_must (refine (args_any h _).mono ?_); rintro e wb ⟨ub, rfl, hownB, hbb⟩; go_must (rw [← HTS.out, HL.out] at hownB; obtain ⟨a2, c2, rfl⟩ := own_shapeT hownB; have hBb := hBa.trans (hbb.mono (by omega)); have hzb := hbb.size; have hownA2 := own_below hownA hbb (Nat.le_refl _); (have HLT : Hid (∀ j, (Value.slice a1 n c1).ownBlock = some j → w0.heap.size ≤ j ∧ j < wa.heap.size) := hownA.lt); clear hbb K2 hownA hBa))
        | (go_at_call 18; go_must (refine (rargs_any h _).mono ?_); rintro e wc ⟨uc, rfl, hownC, hbc⟩; go_must (rw [← HTS.out, HL.out] at hownC; obtain ⟨a3, c3, rfl⟩ := own_shapeT hownC; have hBc := hBb.trans (hbc.mono (by omega)); have hzc := hbc.size; have hownA3 := own_below hownA2 hbc (Nat.le_refl _); have hownB3 := own_below hownB hbc (Nat.le_refl _); (have HLTB : Hid (∀ j, (Value.slice a2 n c2).ownBlock = some j → wa.heap.size ≤ j ∧ j < wb.heap.size) := hownB.lt); (have HLTC : Hid (∀ j, (Value.slice a3 n c3).ownBlock = some j → wb.heap.size ≤ j ∧ j < wc.heap.size) := hownC.lt); (have HSA : Hid (SeesT wc (Value.slice a1 n c1) ts) := own_seesN HL.out hownA3); (have HSB : Hid (SeesT wc (Value.slice a2 n c2) ts) := own_seesN HL.out hownB3); (have HSC : Hid (SeesT wc (Value.slice a3 n c3) ts) := own_seesN HL.out hownC); clear hbc hownA2 hownB hBb))
        | (go_at_call 19; (have hq := K3; clear hq); go_must (refine (alike_any _ _ ts _ HSA.out HSC.out).mono ?_); rintro e wd ⟨rfl, nd, rfl⟩; go_must (clear K3))
        | (go_at_call 19; (have hq := K4; clear hq); go_must (refine (alike_any _ _ ts _ (HSB.out.drewN nd) (HSC.out.drewN nd)).mono ?_); rintro e we ⟨rfl, ne, rfl⟩; go_must (clear K4)))
      obtain ⟨wf, HWF, hownA, HOB, HOC, hBf, hzf⟩ : ∃ wf, Hid (wf = wc.drewN (nd + ne)) ∧ wf.ownsRow w0.heap.size 30 4 (.slice a1 n c1) n (flatT ts) ∧ Hid (wf.ownsRow wa.heap.size 30 4 (.slice a2 n c2) n (flatT ts)) ∧ Hid (wf.ownsRow wb.heap.size 30 4 (.slice a3 n c3) n (flatT ts)) ∧ Below w.heap.size w wf ∧ wf.heap.size = wc.heap.size :=
        ⟨_, rfl, hownA3, hownB3, hownC, below_drewN hBc (nd + ne), rfl⟩
      rw [← HWF.out]
      clear HWF hownA3 hownB3 hownC hBc HSA HSB HSC
      go_loopw [8] (fun i wr => ∃ m : Nat, m ≤ n ∧ i = .int .i64 m ∧ (∃ l, wr.ownsRow w0.heap.size 30 4 (.slice a1 n c1) n l) ∧ wf.grownBy wr (Value.slice a1 n c1).ownBlock) (fun i _ => n - (intOf i).toNat)
      case atStart => exact ⟨0, by omega, rfl, ⟨_, hownA⟩, grown_refl _ _⟩
      case round =>
        obtain ⟨m, hm, rfl, ⟨l, hown⟩, hgr⟩ := hrel
        clear hownA
        by_cases hmn : m < n
        · obtain ⟨g, rfl⟩ : ∃ g, a1 = some ⟨g, 0, none⟩ := by
            rcases hown.2 with ⟨_, h0⟩ | ⟨g, cap, cur, hv, _⟩
            · omega
            · exact ⟨g, by injection hv⟩
          have hcap : n ≤ c1 ∧ c1 ≤ 9223372036854775807 := by
            rcases hown.2 with ⟨_, h0⟩ | ⟨g, cap, cur, hv, _, _, h1, h2, _⟩
            · omega
            · injection hv with _ _ e3
              unfold maxLen at h2
              omega
          obtain ⟨y0, y1, y2, y3, q0, q1, q2, q3⟩ := own_cells4 hown hmn
          have f0 := hown.frozenAt (m * 4)
          have f1 := hown.frozenAt (m * 4 + 1)
          have f2 := hown.frozenAt (m * 4 + 2)
          have f3 := hown.frozenAt (m * 4 + 3)
          obtain ⟨l', R1, R2⟩ := own_store4 hown m (.int .i64 77) (.int .u64 0) (.int .u64 0) (.int .i64 0)
          have HR1 : Hid (∃ l', _) := ⟨l', R1⟩
          have HR2 : Hid (wf.grownBy _ (Value.slice (some ⟨g, 0, none⟩) n c1).ownBlock) := grown_trans hgr R2
          clear hown hgr R1 R2
          go_wp2
          go_roundw
          case rel => exact ⟨m + 1, by omega, by go_num, HR1.out, HR2.out⟩
          case measure => simp [intOf]; omega
        · have hBr : Below w.heap.size w wr := hBf.grown hgr hBf.size (fun j hj => by have := HLT.out j hj; omega)
          have HOBr : Hid (wr.ownsRow wa.heap.size 30 4 (.slice a2 n c2) n (flatT ts)) := own_far HOB.out hgr (fun j hj e => by have h1 := HLTB.out j hj; have h2 := HLT.out j e.symm; omega)
          have HOCr : Hid (wr.ownsRow wb.heap.size 30 4 (.slice a3 n c3) n (flatT ts)) := own_far HOC.out hgr (fun j hj e => by have h1 := HLTC.out j hj; have h2 := HLT.out j e.symm; omega)
          have hBrz := hBr.size
          have hgrz := hgr.size
          have K5 : Hid True := trivial
          have K6 : Hid True := trivial
          clear hBf hgr HOB HOC
          go_wp2_with (first
            | (at_builtin; (have hq := hown; clear hq); go_must (refine wpList_append_own _ rfl (.tmp 45) (.tmp 47) 39 rfl w0.heap.size 30 i0 (tyV Ty.nil) 4 32 Tryd.underlying39 hi hz0 hz1 hz2 rfl (by decide) _ _ _ rfl (hown.alloc _) ⟨_, 0, none⟩ 1 1 (flatT [⟨78, 0, 0, 0⟩]) rfl rfl (one_typeT _ _ _ (by first | rfl | simp) ⟨78, 0, 0, 0⟩) (flatT_one _) (by unfold maxLen; omega) (by omega) (by simp; omega) ?_); intro v6 w6 hown6 hg6 _; go_must (have hB6 : Below w.heap.size w w6 := (hBr.alloc (by omega) _).grown hg6 (by simp; omega) (fun j hj => by have := HLT.out j hj; omega); have HSB6 : Hid (SeesT w6 (Value.slice a2 n c2) ts) := own_seesN HL.out (own_far (HOBr.out.alloc _) hg6 (fun j hj e => by have h1 := HLTB.out j hj; have h2 := HLT.out j e.symm; omega)); have HSC6 : Hid (SeesT w6 (Value.slice a3 n c3) ts) := own_seesN HL.out (own_far (HOCr.out.alloc _) hg6 (fun j hj e => by have h1 := HLTC.out j hj; have h2 := HLT.out j e.symm; omega)); obtain ⟨a6, c6, rfl⟩ := own_shapeT hown6; clear hg6 hown6 hown hBr HOBr HOCr))
            | (go_at_call 19; (have hq := K5; clear hq); go_must (refine (alike_any _ _ ts _ HSB6.out HSC6.out).mono ?_); rintro e w7 ⟨rfl, n7, rfl⟩; go_must (have hB7 := below_drewN hB6 n7; clear K5 hB6))
            | (go_at_call 17; (have hq := hB7; clear hq); go_must (refine (args_any h _).mono ?_); rintro e w8 ⟨u8, rfl, hown8, hb8⟩; go_must (rw [← HTS.out, HL.out] at hown8; (have HS8 : Hid (SeesT w8 u8 ts) := own_seesN HL.out hown8); (have HSC8 : Hid (SeesT w8 (Value.slice a3 n c3) ts) := SeesT.below (HSC6.out.drewN n7) hb8); obtain ⟨a8, c8, rfl⟩ := own_shapeT hown8; have hB8 := hB7.trans (hb8.mono hB7.size); clear hb8 hown8 hB7))
            | (go_at_call 19; (have hq := K6; clear hq); go_must (refine (alike_any _ _ ts _ HS8.out HSC8.out).mono ?_); rintro e w9 ⟨rfl, n9, rfl⟩; go_must (have hB9 := below_drewN hB8 n9; clear K6 hB8)))
          go_roundw
          case rel => exact ⟨8 + 1, by omega, by omega, by go_num, hB9⟩
          case measure => first | (simp [intOf]; done) | (simp [intOf]; omega)
    case neg =>
      obtain ⟨ts, HTS⟩ : ∃ ts, Hid (ts = argsL k) := ⟨_, rfl⟩
      obtain ⟨n, HL⟩ : ∃ n, Hid (ts.length = n) := ⟨_, rfl⟩
      have hn3 : n ≤ 3 := by rw [← HL.out, HTS.out]; exact argsL_len _
      have K1 : Hid True := trivial
      have K2 : Hid True := trivial
      have K3 : Hid True := trivial
      have K4 : Hid True := trivial
      go_wp2_with (first
        | (go_at_call 17; (have hq := K1; clear hq); go_must (refine (args_any k _).mono ?_); rintro e wa ⟨ua, rfl, hownA, hba⟩; go_must (rw [← HTS.out, HL.out] at hownA; obtain ⟨a1, c1, rfl⟩ := own_shapeT hownA; have hBa := hbr.trans (hba.mono hz0'); have hza := hba.size; clear hba K1))
        | (go_at_call 17; (have hq := K2; clear hq); go_must (refine (args_any k _).mono ?_); rintro e wb ⟨ub, rfl, hownB, hbb⟩; go_must (rw [← HTS.out, HL.out] at hownB; obtain ⟨a2, c2, rfl⟩ := own_shapeT hownB; have hBb := hBa.trans (hbb.mono (by omega)); have hzb := hbb.size; have hownA2 := own_below hownA hbb (Nat.le_refl _); (have HLT : Hid (∀ j, (Value.slice a1 n c1).ownBlock = some j → w0.heap.size ≤ j ∧ j < wa.heap.size) := hownA.lt); clear hbb K2 hownA hBa))
        | (go_at_call 18; go_must (refine (rargs_any k _).mono ?_); rintro e wc ⟨uc, rfl, hownC, hbc⟩; go_must (rw [← HTS.out, HL.out] at hownC; obtain ⟨a3, c3, rfl⟩ := own_shapeT hownC; have hBc := hBb.trans (hbc.mono (by omega)); have hzc := hbc.size; have hownA3 := own_below hownA2 hbc (Nat.le_refl _); have hownB3 := own_below hownB hbc (Nat.le_refl _); (have HLTB : Hid (∀ j, (Value.slice a2 n c2).ownBlock = some j → wa.heap.size ≤ j ∧ j < wb.heap.size) := hownB.lt); (have HLTC : Hid (∀ j, (Value.slice a3 n c3).ownBlock = some j → wb.heap.size ≤ j ∧ j < wc.heap.size) := hownC.lt); (have HSA : Hid (SeesT wc (Value.slice a1 n c1) ts) := own_seesN HL.out hownA3); (have HSB : Hid (SeesT wc (Value.slice a2 n c2) ts) := own_seesN HL.out hownB3); (have HSC : Hid (SeesT wc (Value.slice a3 n c3) ts) := own_seesN HL.out hownC); clear hbc hownA2 hownB hBb))
        | (go_at_call 19; (have hq := K3; clear hq); go_must (refine (alike_any _ _ ts _ HSA.out HSC.out).mono ?_); rintro e wd ⟨rfl, nd, rfl⟩; go_must (clear K3))
        | (go_at_call 19; (have hq := K4; clear hq); go_must (refine (alike_any _ _ ts _ (HSB.out.drewN nd) (HSC.out.drewN nd)).mono ?_); rintro e we ⟨rfl, ne, rfl⟩; go_must (clear K4)))
      obtain ⟨wf, HWF, hownA, HOB, HOC, hBf, hzf⟩ : ∃ wf, Hid (wf = wc.drewN (nd + ne)) ∧ wf.ownsRow w0.heap.size 30 4 (.slice a1 n c1) n (flatT ts) ∧ Hid (wf.ownsRow wa.heap.size 30 4 (.slice a2 n c2) n (flatT ts)) ∧ Hid (wf.ownsRow wb.heap.size 30 4 (.slice a3 n c3) n (flatT ts)) ∧ Below w.heap.size w wf ∧ wf.heap.size = wc.heap.size :=
        ⟨_, rfl, hownA3, hownB3, hownC, below_drewN hBc (nd + ne), rfl⟩
      rw [← HWF.out]
      clear HWF hownA3 hownB3 hownC hBc HSA HSB HSC
      go_loopw [8] (fun i wr => ∃ m : Nat, m ≤ n ∧ i = .int .i64 m ∧ (∃ l, wr.ownsRow w0.heap.size 30 4 (.slice a1 n c1) n l) ∧ wf.grownBy wr (Value.slice a1 n c1).ownBlock) (fun i _ => n - (intOf i).toNat)
      case atStart => exact ⟨0, by omega, rfl, ⟨_, hownA⟩, grown_refl _ _⟩
      case round =>
        obtain ⟨m, hm, rfl, ⟨l, hown⟩, hgr⟩ := hrel
        clear hownA
        by_cases hmn : m < n
        · obtain ⟨g, rfl⟩ : ∃ g, a1 = some ⟨g, 0, none⟩ := by
            rcases hown.2 with ⟨_, h0⟩ | ⟨g, cap, cur, hv, _⟩
            · omega
            · exact ⟨g, by injection hv⟩
          have hcap : n ≤ c1 ∧ c1 ≤ 9223372036854775807 := by
            rcases hown.2 with ⟨_, h0⟩ | ⟨g, cap, cur, hv, _, _, h1, h2, _⟩
            · omega
            · injection hv with _ _ e3
              unfold maxLen at h2
              omega
          obtain ⟨y0, y1, y2, y3, q0, q1, q2, q3⟩ := own_cells4 hown hmn
          have f0 := hown.frozenAt (m * 4)
          have f1 := hown.frozenAt (m * 4 + 1)
          have f2 := hown.frozenAt (m * 4 + 2)
          have f3 := hown.frozenAt (m * 4 + 3)
          obtain ⟨l', R1, R2⟩ := own_store4 hown m (.int .i64 77) (.int .u64 0) (.int .u64 0) (.int .i64 0)
          have HR1 : Hid (∃ l', _) := ⟨l', R1⟩
          have HR2 : Hid (wf.grownBy _ (Value.slice (some ⟨g, 0, none⟩) n c1).ownBlock) := grown_trans hgr R2
          clear hown hgr R1 R2
          go_wp2
          go_roundw
          case rel => exact ⟨m + 1, by omega, by go_num, HR1.out, HR2.out⟩
          case measure => simp [intOf]; omega
        · have hBr : Below w.heap.size w wr := hBf.grown hgr hBf.size (fun j hj => by have := HLT.out j hj; omega)
          have HOBr : Hid (wr.ownsRow wa.heap.size 30 4 (.slice a2 n c2) n (flatT ts)) := own_far HOB.out hgr (fun j hj e => by have h1 := HLTB.out j hj; have h2 := HLT.out j e.symm; omega)
          have HOCr : Hid (wr.ownsRow wb.heap.size 30 4 (.slice a3 n c3) n (flatT ts)) := own_far HOC.out hgr (fun j hj e => by have h1 := HLTC.out j hj; have h2 := HLT.out j e.symm; omega)
          have hBrz := hBr.size
          have hgrz := hgr.size
          have K5 : Hid True := trivial
          have K6 : Hid True := trivial
          clear hBf hgr HOB HOC
          go_wp2_with (first
            | (at_builtin; (have hq := hown; clear hq); go_must (refine wpList_append_own _ rfl (.tmp 45) (.tmp 47) 39 rfl w0.heap.size 30 i0 (tyV Ty.nil) 4 32 Tryd.underlying39 hi hz0 hz1 hz2 rfl (by decide) _ _ _ rfl (hown.alloc _) ⟨_, 0, none⟩ 1 1 (flatT [⟨78, 0, 0, 0⟩]) rfl rfl (one_typeT _ _ _ (by first | rfl | simp) ⟨78, 0, 0, 0⟩) (flatT_one _) (by unfold maxLen; omega) (by omega) (by simp; omega) ?_); intro v6 w6 hown6 hg6 _; go_must (have hB6 : Below w.heap.size w w6 := (hBr.alloc (by omega) _).grown hg6 (by simp; omega) (fun j hj => by have := HLT.out j hj; omega); have HSB6 : Hid (SeesT w6 (Value.slice a2 n c2) ts) := own_seesN HL.out (own_far (HOBr.out.alloc _) hg6 (fun j hj e => by have h1 := HLTB.out j hj; have h2 := HLT.out j e.symm; omega)); have HSC6 : Hid (SeesT w6 (Value.slice a3 n c3) ts) := own_seesN HL.out (own_far (HOCr.out.alloc _) hg6 (fun j hj e => by have h1 := HLTC.out j hj; have h2 := HLT.out j e.symm; omega)); obtain ⟨a6, c6, rfl⟩ := own_shapeT hown6; clear hg6 hown6 hown hBr HOBr HOCr))
            | (go_at_call 19; (have hq := K5; clear hq); go_must (refine (alike_any _ _ ts _ HSB6.out HSC6.out).mono ?_); rintro e w7 ⟨rfl, n7, rfl⟩; go_must (have hB7 := below_drewN hB6 n7; clear K5 hB6))
            | (go_at_call 17; (have hq := hB7; clear hq); go_must (refine (args_any k _).mono ?_); rintro e w8 ⟨u8, rfl, hown8, hb8⟩; go_must (rw [← HTS.out, HL.out] at hown8; (have HS8 : Hid (SeesT w8 u8 ts) := own_seesN HL.out hown8); (have HSC8 : Hid (SeesT w8 (Value.slice a3 n c3) ts) := SeesT.below (HSC6.out.drewN n7) hb8); obtain ⟨a8, c8, rfl⟩ := own_shapeT hown8; have hB8 := hB7.trans (hb8.mono hB7.size); clear hb8 hown8 hB7))
            | (go_at_call 19; (have hq := K6; clear hq); go_must (refine (alike_any _ _ ts _ HS8.out HSC8.out).mono ?_); rintro e w9 ⟨rfl, n9, rfl⟩; go_must (have hB9 := below_drewN hB8 n9; clear K6 hB8)))
          go_roundw
          case rel => exact ⟨k + 1, by omega, by omega, by go_num, hB9⟩
          case measure => first | (simp [intOf]; done) | (simp [intOf]; omega)
end Go.Proofs.YtpgkjoahngfgnaaDoor
