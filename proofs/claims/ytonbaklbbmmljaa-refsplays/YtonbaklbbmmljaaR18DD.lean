
/-
  The document's refs of layer 18: Holders, told by the plain refs. Condition: they lie where the pointer says.
-/
import Derived.Test.YtonbaklbbmmljaaTk
import Derived.Test.YtonbaklbbmmljaaR18DC
namespace Go.Proofs.Ytonbaklbbmmljaa
open Go.RowKit
set_option linter.unusedVariables false
set_option linter.unusedSimpArgs false
set_option maxRecDepth 100000
/-- A hold's program, once for each place where the map stands. -/
def repH (x : Int) (p : Int) (ms : List Int) : List Int := (ms.filter (fun y => y == x)).map (fun _ => p)
def outL (x : Int) (L : List Hr) : List Int := L.flatMap (fun h => repH x h.p h.ms)
theorem repH_take {x p : Int} {ms : List Int} {k : Nat} (hk : k < ms.length) : repH x p (ms.take (k + 1)) = if ms.getD k 0 = x then repH x p (ms.take k) ++ [p] else repH x p (ms.take k) := by
  unfold repH
  rw [take_at ms k hk, List.filter_append, List.map_append]
  by_cases e : ms.getD k 0 = x
  · rw [if_pos e, List.filter_cons_of_pos (by simpa using e)]; rfl
  · rw [if_neg e, List.filter_cons_of_neg (by simpa using e)]; simp
theorem repH_one {x p : Int} {ms : List Int} (hn : ms.Nodup) : repH x p ms = if x ∈ ms then [p] else [] := by
  induction ms with
  | nil => simp [repH]
  | cons y ms ih =>
    rw [List.nodup_cons] at hn
    have ih := ih hn.2
    unfold repH at ih ⊢
    by_cases e : y = x
    · subst e
      rw [List.filter_cons_of_pos (by simp), List.map_cons, ih, if_neg hn.1, if_pos (by simp)]
    · rw [List.filter_cons_of_neg (by simpa using e), ih]
      by_cases hm : x ∈ ms
      · rw [if_pos hm, if_pos (by simp [hm])]
      · rw [if_neg hm, if_neg (by simp [hm]; exact fun h => e h.symm)]
theorem repH_len (x p : Int) (ms : List Int) : (repH x p ms).length ≤ ms.length := by unfold repH; rw [List.length_map]; exact List.length_filter_le _ _
theorem outL_take {x : Int} {L : List Hr} {k : Nat} (hk : k < L.length) : outL x (L.take (k + 1)) = outL x (L.take k) ++ repH x (L.getD k Hr.nil).p (L.getD k Hr.nil).ms := by
  unfold outL
  rw [take_atH L k hk, List.flatMap_append]
  simp
theorem outL_len {x : Int} : ∀ {L : List Hr}, (∀ h ∈ L, h.ms.length ≤ 4) → (outL x L).length ≤ 4 * L.length := by
  intro L
  induction L with
  | nil => intro _; simp [outL]
  | cons h l ih =>
    intro hh
    have h1 := ih (fun y hy => hh y (by simp [hy]))
    have h2 := hh h (by simp)
    have h3 := repH_len x h.p h.ms
    have e : outL x (h :: l) = repH x h.p h.ms ++ outL x l := by simp [outL]
    rw [e, List.length_append, List.length_cons]
    omega
theorem outL_holders {x : Int} : ∀ {L : List Hr}, (∀ h ∈ L, h.ms.Nodup) → outL x L = Rs.holders (L.map Hr.hm) x := by
  intro L
  induction L with
  | nil => intro _; rfl
  | cons h l ih =>
    intro hh
    have h1 := ih (fun y hy => hh y (by simp [hy]))
    have e : outL x (h :: l) = repH x h.p h.ms ++ outL x l := by simp [outL]
    rw [e, h1, repH_one (hh h (by simp))]
    unfold Rs.holders
    rw [List.map_cons, List.filter_cons]
    by_cases hm : x ∈ h.ms
    · rw [if_pos hm, if_pos (show decide (x ∈ h.hm.ms) = true from decide_eq_true hm)]; rfl
    · rw [if_neg hm, if_neg (show ¬ decide (x ∈ h.hm.ms) = true from fun e => hm (of_decide_eq_true e))]; rfl
/-- A row of numbers of the call's own. -/
def RoI (w : World) (B : Nat) (u : Value) (Y : List Int) : Prop := w.ownsRow B 3 1 u Y.length (Y.map (Value.int .i64))
theorem RoI.cells {w : World} {B : Nat} {u : Value} {Y : List Int} (h : RoI w B u Y) (hn : 0 < Y.length) : ∃ p cap, u = .slice (some ⟨p, 0, none⟩) Y.length cap ∧ B ≤ p ∧ p < w.heap.size ∧ Y.length ≤ cap ∧ cap ≤ 9223372036854775807 ∧ (∀ k, k < Y.length → w.cell? ⟨p, k, none⟩ = some (.int .i64 (Y.getD k 0)) ∧ w.frozen? ⟨p, k, none⟩ = false) ∧ ∀ (k : Nat) (y : Int), RoI (w.setCell ⟨p, k, none⟩ (.int .i64 y)) B (.slice (some ⟨p, 0, none⟩) Y.length cap) (Y.set k y) := by
  have h0 := h
  unfold RoI at h0
  obtain ⟨p, cap, e, h1, h2, h3, h4, h5⟩ := own_open h hn
  subst e
  unfold maxLen at h4
  refine ⟨p, cap, rfl, h1, h2, h3, by omega, fun k hk => ⟨h5 k _ (by simp [List.getD, hk]), h0.frozenAt _⟩, fun k y => ?_⟩
  have := (h0.stored k (.int .i64 y)).1
  unfold RoI
  rw [List.length_set, List.map_set]
  exact this
theorem RoI.below {w w' : World} {B : Nat} {u : Value} {Y : List Int} (h : RoI w B u Y) (hb : Below w.heap.size w w') : RoI w' B u Y := own_below h hb (Nat.le_refl _)
/-- All but one place rise. -/
def Rise (Y : List Int) (i k : Nat) : Prop := ∀ a b, a < b → b ≤ i → b ≠ k → Y.getD a 0 ≤ Y.getD b 0
def UpTo (Y : List Int) (i : Nat) : Prop := ∀ a b, a < b → b < i → Y.getD a 0 ≤ Y.getD b 0
theorem UpTo.start {Y : List Int} {i : Nat} (h : UpTo Y i) : Rise Y i i := fun a b h1 h2 h3 => h a b h1 (by omega)
theorem Rise.fin {Y : List Int} {i k : Nat} (h : Rise Y i k) (hk : k = 0 ∨ Y.getD (k - 1) 0 ≤ Y.getD k 0) : UpTo Y (i + 1) := by
  intro a b h1 h2
  by_cases e : b = k
  · subst e
    rcases hk with e | e
    · omega
    · by_cases ea : a = b - 1
      · rw [ea]; exact e
      · have := h a (b - 1) (by omega) (by omega) (by omega)
        omega
  · exact h a b h1 (by omega) e
theorem getD_set (Y : List Int) (k : Nat) (y : Int) (j : Nat) (hk : k < Y.length) : (Y.set k y).getD j 0 = if j = k then y else Y.getD j 0 := by
  by_cases e : j = k
  · subst e; simp [List.getD, hk]
  · rw [if_neg e]
    have : k ≠ j := fun h => e h.symm
    simp [List.getD, List.getElem?_set_ne this]
theorem Rise.swap {Y : List Int} {i k : Nat} (h : Rise Y i k) (hk : 0 < k) (hki : k ≤ i) (hl : k < Y.length) (hlt : Y.getD k 0 < Y.getD (k - 1) 0) : Rise ((Y.set k (Y.getD (k - 1) 0)).set (k - 1) (Y.getD k 0)) i (k - 1) := by
  intro a b h1 h2 h3
  have key : ∀ j, ((Y.set k (Y.getD (k - 1) 0)).set (k - 1) (Y.getD k 0)).getD j 0 = if j = k - 1 then Y.getD k 0 else if j = k then Y.getD (k - 1) 0 else Y.getD j 0 := by
    intro j
    rw [getD_set _ _ _ _ (by rw [List.length_set]; omega), getD_set _ _ _ _ hl]
  rw [key a, key b]
  rw [if_neg h3]
  by_cases eb : b = k
  · rw [if_pos eb]
    by_cases ea : a = k - 1
    · rw [if_pos ea]; omega
    · rw [if_neg ea, if_neg (by omega)]
      exact h a (k - 1) (by omega) (by omega) (by omega)
  · rw [if_neg eb]
    by_cases ea : a = k - 1
    · rw [if_pos ea]
      exact h k b (by omega) h2 eb
    · rw [if_neg ea]
      by_cases eak : a = k
      · rw [if_pos eak]; exact h (k - 1) b (by omega) h2 eb
      · rw [if_neg eak]; exact h a b h1 h2 eb
theorem swap_perm {Y : List Int} {k : Nat} (hk : 0 < k) (hl : k < Y.length) : ((Y.set k (Y.getD (k - 1) 0)).set (k - 1) (Y.getD k 0)).Perm Y := by
  have e1 : Y.getD (k - 1) 0 = Y[k - 1]'(by omega) := by
    have : k - 1 < Y.length := by omega
    simp [List.getD, this]
  have e2 : Y.getD k 0 = Y[k] := by simp [List.getD, hl]
  rw [e1, e2]
  exact List.set_set_perm hl (by omega)
/-- Sorted and alike but for the order: the same. -/
theorem sorted_eq {Y A : List Int} (hs : UpTo Y Y.length) (hp : Y.Perm A) (hA : A.Pairwise (· < ·)) : Y = A := by
  refine up_perm Y A ?_ hA hp
  have hnd : Y.Nodup := hp.nodup_iff.2 (hA.imp (fun h => by omega))
  rw [List.Nodup, List.pairwise_iff_getElem] at hnd
  rw [List.pairwise_iff_getElem]
  intro i j hi hj hij
  have h1 := hs i j hij hj
  have h2 := hnd i j hi hj hij
  have e1 : Y.getD i 0 = Y[i] := by simp [List.getD, hi]
  have e2 : Y.getD j 0 = Y[j] := by simp [List.getD, hj]
  rw [e1, e2] at h1
  omega
section
variable {w w' : World} {B b n m : Nat} {F G : Ft} {P : Rs}
set_option maxHeartbeats 12800000 in
theorem dholders (h : Dq w B b F n P m) (hk : Rs.Ok n P) (hn : n ≤ 4) (hm : m ≤ 10000) (x : Int) {A : List Int} (HA : Hid (P.holders x = A)) : Calls Try.prog 17 #[.pointer (some ⟨b, 0, none⟩), .int .i64 x] w fun e w' => ∃ u, e = .returned u ∧ RoI w' w.heap.size u A ∧ Below w.heap.size w w' := by
  obtain ⟨i0, hi0, hz0, hzs, hzb⟩ := info_parts infoIntR
  obtain ⟨v, L, hD, hP, hL, hF⟩ := h.ex
  have hmsl : ∀ h ∈ L, h.ms.Nodup ∧ h.ms.length ≤ 4 := by
    intro y hy
    have h1 := hk.ms y.hm (hP.mem_iff.1 (List.mem_map.2 ⟨y, hy, rfl⟩))
    have h2 := okM_len hn h1
    simp only [okM, Bool.and_eq_true, decide_eq_true_eq] at h1
    exact ⟨h1.1, h2⟩
  have HML := keepG hmsl
  have HPA : Hid ((outL x L).Perm A) := by
    show List.Perm _ _
    rw [outL_holders (fun y hy => (hmsl y hy).1), ← HA.out]
    exact holders_perm hP x
  have HAU : Hid (A.Pairwise (· < ·)) := by
    rw [← HA.out]
    exact hk.holders_up x
  have HH := keepG (fun (wr : World) (hb : Below w.heap.size w wr) => hD.below hb)
  obtain ⟨va, vc, ev, hvc, hvm⟩ := (own_seesG hrC_len Hr.nil hD.row).shape
  subst ev
  clear h hD hP hF HA hmsl
  go_enter Try.func17, Try.ntmps17
  go_wp2
  go_loopw [5, 6] (fun u i wr => ∃ j : Nat, j ≤ L.length ∧ i = .int .i64 j ∧ Hid (RoI wr w.heap.size u (outL x (L.take j))) ∧ Hid (Below w.heap.size w wr)) (fun _ i _ => L.length - (intOf i).toNat)
  case atStart => exact ⟨0, by omega, rfl, World.ownsRow_nil _ _ _ _, Below.refl _ _⟩
  case round =>
    rename_i u wr
    obtain ⟨j, hj, rfl, HO, HB⟩ := hrel
    have HDr := keepG (HH.out wr HB.out)
    have c1 := HDr.out.hp.cell (j := 1) rfl
    obtain ⟨ua, uc, ev⟩ := own_shape HO.out
    subst ev
    by_cases hlt : j < L.length
    · have hltI : (j : Int) < L.length := by omega
      have HT := keepG (outL_take (x := x) hlt)
      have hol := outL_len (x := x) (L := L.take j) (fun y hy => (HML.out y (List.mem_of_mem_take hy)).2)
      have htl := List.length_take_le j L
      have hsl := (HML.out _ (getD_memH L j hlt)).2
      obtain ⟨s, HS0⟩ : ∃ s, Hid (L.getD j Hr.nil = s) := ⟨_, rfl⟩
      rw [HS0.out] at HT hsl
      obtain ⟨sp, su, sm⟩ := s
      simp only at HT hsl
      have hse := HDr.out.ins _ (getD_memH L j hlt)
      rw [HS0.out] at hse
      simp only at hse
      obtain ⟨sa, sc, ev3⟩ := hse.shape
      subst ev3
      obtain ⟨O, HOO⟩ : ∃ O, Hid (outL x (L.take j) = O) := ⟨_, rfl⟩
      rw [HOO.out] at HO HT hol ⊢
      have hO4 : O.length ≤ 40000 := by omega
      clear hol htl hse
      go_wp2
      go_loopw [5, 7] (fun u2 i wq => ∃ q : Nat, q ≤ sm.length ∧ i = .int .i64 q ∧ Hid (RoI wq w.heap.size u2 (O ++ repH x sp (sm.take q))) ∧ Hid (Below w.heap.size w wq)) (fun _ i _ => sm.length - (intOf i).toNat)
      case atStart => exact ⟨0, by omega, rfl, by have := HO.out; show RoI _ _ _ _; simpa [repH] using this, HB.out⟩
      case round =>
        rename World => wq
        rename Value => u2
        obtain ⟨q, hq, rfl, HOq, HBq⟩ := hrel
        have HDq := keepG (HH.out wq HBq.out)
        have c1q := HDq.out.hp.cell (j := 1) rfl
        obtain ⟨xa, xc, ev⟩ := own_shape HOq.out
        subst ev
        obtain ⟨a', c', ev2, _, hmc, _, hcell⟩ := own_seesG hrC_len Hr.nil HDq.out.row
        unfold maxLen at hmc
        simp only [Value.slice.injEq, true_and] at ev2
        obtain ⟨rfl, rfl⟩ := ev2
        obtain ⟨gg, go, rfl, hgg, hcc⟩ := hcell (fun e => by rw [e] at hlt; simp at hlt)
        have e0 := hcc j hlt 0 (by omega)
        have e1 := hcc j hlt 1 (by omega)
        rw [HS0.out] at e0 e1
        simp only [List.getElem?_cons_zero, List.getElem?_cons_succ, Nat.add_zero] at e0 e1
        have hse := HDq.out.ins _ (getD_memH L j hlt)
        rw [HS0.out] at hse
        simp only at hse
        obtain ⟨a3, c3, ev4, hcs, hcm, _, _, hsc⟩ := hse
        unfold maxLen at hcm
        simp only [Value.slice.injEq, true_and] at ev4
        obtain ⟨rfl, rfl⟩ := ev4
        clear hcell hcc
        by_cases hqt : q < sm.length
        · have hqtI : (q : Int) < sm.length := by omega
          obtain ⟨mp, mo, rfl, hmp, hmat⟩ := hsc (fun e => by rw [e] at hqt; simp at hqt)
          have f0 := hmat q hqt
          have HRT := keepG (repH_take (x := x) (p := sp) hqt)
          have hrl := repH_len x sp (sm.take q)
          have htl2 := List.length_take_le q sm
          obtain ⟨y, HY⟩ : ∃ y, Hid (sm.getD q 0 = y) := ⟨_, rfl⟩
          rw [HY.out] at f0 HRT
          obtain ⟨M, HM⟩ : ∃ M, Hid (O ++ repH x sp (sm.take q) = M) := ⟨_, rfl⟩
          have hMl : M.length ≤ 50000 := by rw [← HM.out, List.length_append]; omega
          rw [HM.out] at HOq ⊢
          have hzq := HBq.out.size
          clear hmat hsc hrl htl2
          by_cases hyx : y = x
          · subst hyx
            have HRT2 : Hid (O ++ repH y sp (sm.take (q + 1)) = M ++ [sp]) := by show _ = _; rw [HRT.out, if_pos rfl, ← List.append_assoc, HM.out]
            go_wp2_with (at_builtin; go_must (refine wpList_append_wide _ rfl _ _ 32 rfl w.heap.size 3 i0 (.int .i64 0) 1 8 Try.underlying32 hi0 hz0 hzs hzb rfl (by decide) _ _ _ rfl (HOq.out.alloc _) ⟨_, 0, none⟩ 1 1 [.int .i64 sp] rfl rfl (cell_one_new _ _ _) (one_cell _ _) (by unfold maxLen; omega) (by omega) (by simp; omega) ?_); intro v' w5 hown' hgrow _; have R := step_append HOq.out HBq.out (Nat.le_refl _) hown' hgrow; clear hown' hgrow)
            go_roundw
            case rel => exact ⟨q + 1, by omega, by go_num, by rw [HRT2.out]; exact R.1, R.2⟩
            case measure => simp [intOf]; omega
          · have hyb : (y == x) = false := by simpa using hyx
            have HRT2 : Hid (O ++ repH x sp (sm.take (q + 1)) = M) := by show _ = _; rw [HRT.out, if_neg hyx, HM.out]
            go_wp2
            go_roundw
            case rel => exact ⟨q + 1, by omega, by go_num, by rw [HRT2.out]; exact HOq.out, HBq.out⟩
            case measure => simp [intOf]; omega
        · have hqtI : ¬ (q : Int) < sm.length := by omega
          have hT : sm.take q = sm := List.take_of_length_le (by omega)
          have HOE : Hid (O ++ repH x sp (sm.take q) = outL x (L.take (j + 1))) := by show _ = _; rw [hT, HT.out]
          rw [HOE.out] at HOq ⊢
          clear hT hsc
          go_wp2
          go_roundw
          case rel => exact ⟨j + 1, by omega, by go_num, HOq.out, HBq.out⟩
          case measure => simp [intOf]; omega
    · have hltI : ¬ (j : Int) < L.length := by omega
      have hol := outL_len (x := x) (L := L.take j) (fun y hy => (HML.out y (List.mem_of_mem_take hy)).2)
      have htl := List.length_take_le j L
      have hT : L.take j = L := List.take_of_length_le (by omega)
      rw [hT] at HO hol ⊢
      obtain ⟨H, HHH⟩ : ∃ H, Hid (outL x L = H) := ⟨_, rfl⟩
      rw [HHH.out] at HO HPA hol ⊢
      have hHl : H.length ≤ 40000 := by omega
      clear hT hol htl
      obtain ⟨N, HN⟩ : ∃ N, Hid (H.length = N) := ⟨_, rfl⟩
      rw [HN.out] at hHl ⊢
      go_wp2
      go_loopw [8] (fun i wr => ∃ (i8 : Nat) (Y : List Int), 1 ≤ i8 ∧ (i8 ≤ N ∨ i8 = 1) ∧ i = .int .i64 i8 ∧ Hid (RoI wr w.heap.size (.slice ua N uc) Y ∧ Y.length = N ∧ Y.Perm H ∧ UpTo Y i8) ∧ Hid (Below w.heap.size w wr)) (fun i _ => N - (intOf i).toNat)
      case atStart => exact ⟨1, H, by omega, .inr rfl, rfl, ⟨by have := HO.out; rw [HN.out] at this; exact this, HN.out, List.Perm.refl _, fun a b h1 h2 => by omega⟩, HB.out⟩
      case round =>
        rename World => w8
        obtain ⟨i8, Y, hi1, hi2, rfl, HY, HB8⟩ := hrel
        by_cases hit : i8 < N
        · have hitI : (i8 : Int) < N := by omega
          go_wp2
          go_loopw [9] (fun i wr => ∃ (q : Nat) (Z : List Int), q ≤ i8 ∧ i = .int .i64 q ∧ Hid (RoI wr w.heap.size (.slice ua N uc) Z ∧ Z.length = N ∧ Z.Perm H ∧ Rise Z i8 q) ∧ Hid (Below w.heap.size w wr)) (fun i _ => (intOf i).toNat)
          case atStart => exact ⟨i8, Y, Nat.le_refl _, rfl, ⟨HY.out.1, HY.out.2.1, HY.out.2.2.1, HY.out.2.2.2.start⟩, HB8.out⟩
          case round =>
            rename World => w9
            obtain ⟨q, Z, hq, rfl, HZ, HB9⟩ := hrel
            have HZN := keepG HZ.out.2.1
            obtain ⟨g, cap, ev, hBg, hgl, hcap1, hcap2, hcl, hst⟩ := HZ.out.1.cells (by rw [HZN.out]; omega)
            rw [HZN.out] at ev hcap1
            simp only [Value.slice.injEq, true_and] at ev
            obtain ⟨rfl, rfl⟩ := ev
            have hqN : q < N := by omega
            have hqNI : (q : Int) < N := by omega
            have hqz : q < Z.length := by rw [HZN.out]; exact hqN
            by_cases hq0 : q = 0
            · have HF := keepG (HZ.out.2.2.2.fin (.inl hq0))
              have hq0b : ¬ (q : Int) > 0 := by omega
              have hq0c : decide ((q : Int) > 0) = false := by simpa using hq0b
              have hq0d : ¬ (0 : Int) < q := by omega
              have HR1 := keepG HZ.out.1
              have HP1 := keepG HZ.out.2.2.1
              have HBd := keepG (below_drG HB9.out)
              clear hst hcl HZ
              go_wp2
              refine wp_region_held_drew (S := fun _ => True) (by kernel_rfl) trivial (fun hHeld => ?_)
              refine tkGo [0, 1, 2] ?_
              repeat (refine tkOne (v := ?_) rfl (by kernel_rfl) (by kernel_rfl) (by kernel_rfl) (fun _ _ _ h => h) (by assumption) (by rfl) ?_ ?_; rotate_left; (intro wy hSw; (try dsimp only at hSw); go_simp; (first | done | with_reducible rfl)); try simp only [Act.put, List.getElem_toArray, List.getElem_cons_zero, List.getElem_cons_succ, List.setIfInBounds_toArray, List.set_cons_zero, List.set_cons_succ])
              refine tkEnd ?_
              refine wpAnyH_take (i := 3) (v := undef) rfl (by kernel_rfl) (by kernel_rfl) (by kernel_rfl) (fun _ _ _ h => h) (Or.inr ⟨by rfl, rfl⟩) (by assumption) ?_
              try simp only [Act.put, List.getElem_toArray, List.getElem_cons_zero, List.getElem_cons_succ, List.setIfInBounds_toArray, List.set_cons_zero, List.set_cons_succ]
              refine wpAnyH_take (i := 4) (v := undef) rfl (by kernel_rfl) (by kernel_rfl) (by kernel_rfl) (fun _ _ _ h => h) (Or.inr ⟨by rfl, rfl⟩) (by assumption) ?_
              try simp only [Act.put, List.getElem_toArray, List.getElem_cons_zero, List.getElem_cons_succ, List.setIfInBounds_toArray, List.set_cons_zero, List.set_cons_succ]
              refine wpAnyH_take (i := 5) (v := undef) rfl (by kernel_rfl) (by kernel_rfl) (by kernel_rfl) (fun _ _ _ h => h) (Or.inr ⟨by rfl, rfl⟩) (by assumption) ?_
              try simp only [Act.put, List.getElem_toArray, List.getElem_cons_zero, List.getElem_cons_succ, List.setIfInBounds_toArray, List.set_cons_zero, List.set_cons_succ]
              refine wpAnyH_take (i := 6) (v := undef) rfl (by kernel_rfl) (by kernel_rfl) (by kernel_rfl) (fun _ _ _ h => h) (Or.inr ⟨by rfl, rfl⟩) (by assumption) ?_
              try simp only [Act.put, List.getElem_toArray, List.getElem_cons_zero, List.getElem_cons_succ, List.setIfInBounds_toArray, List.set_cons_zero, List.set_cons_succ]
              refine wpAnyH_take (i := 7) (v := undef) rfl (by kernel_rfl) (by kernel_rfl) (by kernel_rfl) (fun _ _ _ h => h) (Or.inr ⟨by rfl, rfl⟩) (by assumption) ?_
              try simp only [Act.put, List.getElem_toArray, List.getElem_cons_zero, List.getElem_cons_succ, List.setIfInBounds_toArray, List.set_cons_zero, List.set_cons_succ]
              refine wpAnyH_take (i := 8) (v := undef) rfl (by kernel_rfl) (by kernel_rfl) (by kernel_rfl) (fun _ _ _ h => h) (Or.inr ⟨by rfl, rfl⟩) (by assumption) ?_
              try simp only [Act.put, List.getElem_toArray, List.getElem_cons_zero, List.getElem_cons_succ, List.setIfInBounds_toArray, List.set_cons_zero, List.set_cons_succ]
              refine wpAnyH_take (i := 9) (v := undef) rfl (by kernel_rfl) (by kernel_rfl) (by kernel_rfl) (fun _ _ _ h => h) (Or.inr ⟨by rfl, rfl⟩) (by assumption) ?_
              try simp only [Act.put, List.getElem_toArray, List.getElem_cons_zero, List.getElem_cons_succ, List.setIfInBounds_toArray, List.set_cons_zero, List.set_cons_succ]
              refine wpAnyH_take (i := 10) (v := undef) rfl (by kernel_rfl) (by kernel_rfl) (by kernel_rfl) (fun _ _ _ h => h) (Or.inr ⟨by rfl, rfl⟩) (by assumption) ?_
              try simp only [Act.put, List.getElem_toArray, List.getElem_cons_zero, List.getElem_cons_succ, List.setIfInBounds_toArray, List.set_cons_zero, List.set_cons_succ]
              refine wpAnyH_take (i := 11) (v := undef) rfl (by kernel_rfl) (by kernel_rfl) (by kernel_rfl) (fun _ _ _ h => h) (Or.inr ⟨by rfl, rfl⟩) (by assumption) ?_
              try simp only [Act.put, List.getElem_toArray, List.getElem_cons_zero, List.getElem_cons_succ, List.setIfInBounds_toArray, List.set_cons_zero, List.set_cons_succ]
              refine wpAnyH_take (i := 12) (v := undef) rfl (by kernel_rfl) (by kernel_rfl) (by kernel_rfl) (fun _ _ _ h => h) (Or.inr ⟨by rfl, rfl⟩) (by assumption) ?_
              try simp only [Act.put, List.getElem_toArray, List.getElem_cons_zero, List.getElem_cons_succ, List.setIfInBounds_toArray, List.set_cons_zero, List.set_cons_succ]
              refine tkGo [13] ?_
              repeat (refine tkOne (v := ?_) rfl (by kernel_rfl) (by kernel_rfl) (by kernel_rfl) (fun _ _ _ h => h) (by assumption) (by rfl) ?_ ?_; rotate_left; (intro wy hSw; (try dsimp only at hSw); go_simp; (first | done | with_reducible rfl)); try simp only [Act.put, List.getElem_toArray, List.getElem_cons_zero, List.getElem_cons_succ, List.setIfInBounds_toArray, List.set_cons_zero, List.set_cons_succ])
              refine tkEnd ?_
              refine wpAnyH_done (by kernel_rfl) ?_ _
              clear hHeld
              go_wp2
              go_roundw
              case rel => exact ⟨i8 + 1, Z, by omega, .inl (by omega), by go_num, ⟨HR1.out, HZN.out, HP1.out, HF.out⟩, HBd.out⟩
              case measure => simp [intOf]; omega
            · obtain ⟨q0, hq0e⟩ : ∃ q0 : Nat, q0 = q - 1 := ⟨_, rfl⟩
              have hq0b : (q : Int) > 0 := by omega
              have hq0c : decide ((q : Int) > 0) = true := by simpa using hq0b
              have hq0g : 0 < q := by omega
              have hq0h : decide (0 < q) = true := by simpa using hq0g
              have hq0d : (0 : Int) < q := by omega
              have hw1 : IntKind.i64.wrap ((q : Int) - 1) = q0 := by rw [IntKind.wrap_i64]; omega
              have hq0N : q0 < N := by omega
              have hq0NI : (q0 : Int) < N := by omega
              have f0 := (hcl q hqz).1
              have f0f := (hcl q hqz).2
              have f1 := (hcl q0 (by rw [HZN.out]; exact hq0N)).1
              have f1f := (hcl q0 (by rw [HZN.out]; exact hq0N)).2
              obtain ⟨y, HYq⟩ : ∃ y, Hid (Z.getD q 0 = y) := ⟨_, rfl⟩
              obtain ⟨t, HTq⟩ : ∃ t, Hid (Z.getD q0 0 = t) := ⟨_, rfl⟩
              rw [HYq.out] at f0
              rw [HTq.out] at f1
              have HQE := keepG hq0e
              have HBd := keepG (below_drG HB9.out)
              have HR1 := keepG HZ.out.1
              have HP1 := keepG HZ.out.2.2.1
              by_cases hyt : y < t
              · have hytb : decide (y < t) = true := by simpa using hyt
                have hne : ¬ q = q0 := by omega
                have hne2 : ¬ q0 = q := by omega
                have HRS : Hid (Rise ((Z.set q t).set q0 y) i8 q0) := by
                  have := HZ.out.2.2.2.swap (by omega) hq hqz (by rw [HYq.out, ← hq0e, HTq.out]; exact hyt)
                  rw [HYq.out, ← hq0e, HTq.out] at this
                  exact this
                have HPS : Hid (((Z.set q t).set q0 y).Perm H) := by
                  have := swap_perm (Y := Z) (k := q) (by omega) hqz
                  rw [HYq.out, ← hq0e, HTq.out] at this
                  exact this.trans HP1.out
                obtain ⟨W1, HW1, HRW1, HCW1⟩ : ∃ W1, Hid (w9.setCell ⟨g, q, none⟩ (.int .i64 t) = W1) ∧ Hid (RoI W1 w.heap.size (.slice (some ⟨g, 0, none⟩) N uc) (Z.set q t)) ∧ Hid (Below w.heap.size w W1) := by
                  refine ⟨_, rfl, ?_, ?_⟩
                  · have := hst q t
                    rw [HZN.out] at this
                    exact this
                  · exact HB9.out.trans (grown_to_below (grown_set w9 g q _) hBg HB9.out.size)
                have hW1l : (Z.set q t).length = N := by rw [List.length_set]; exact HZN.out
                obtain ⟨g', cap', ev', _, _, _, _, hcl', hst'⟩ := HRW1.out.cells (by rw [hW1l]; omega)
                rw [hW1l] at ev'
                simp only [Value.slice.injEq, Option.some.injEq, Addr.mk.injEq, and_true, true_and] at ev'
                obtain ⟨hg', hc'⟩ := ev'
                subst hg' hc'
                have k1 := (hcl' q0 (by rw [hW1l]; exact hq0N)).1
                have k1f := (hcl' q0 (by rw [hW1l]; exact hq0N)).2
                have hst2 := hst' q0 y
                rw [hW1l] at hst2
                have HST2 := keepG hst2
                have HB2 := keepG (below_drG (HCW1.out.trans (grown_to_below (grown_set W1 g q0 (.int .i64 y)) hBg HCW1.out.size)))
                have HL2 : Hid (((Z.set q t).set q0 y).length = N) := by show _ = _; rw [List.length_set]; exact hW1l
                clear hst hcl hst' hcl' hst2 hq0e hW1l HZ
                go_wp2
                refine wp_region_held_drew (S := fun w' => w'.cell? ⟨g, q, none⟩ = some (.int .i64 y) ∧ w'.cell? ⟨g, q0, none⟩ = some (.int .i64 t)) (by kernel_rfl) ⟨f0, f1⟩ (fun hHeld => ?_)
                refine tkGo [0, 1, 2, 3, 4, 5, 6, 7, 8, 9, 10, 11, 12, 13] ?_
                repeat (refine tkOne (v := ?_) rfl (by kernel_rfl) (by kernel_rfl) (by kernel_rfl) (fun _ _ _ h => h) (by assumption) (by rfl) ?_ ?_; rotate_left; (intro wy hSw; (try dsimp only at hSw); go_simp; (first | done | with_reducible rfl)); try simp only [Act.put, List.getElem_toArray, List.getElem_cons_zero, List.getElem_cons_succ, List.setIfInBounds_toArray, List.set_cons_zero, List.set_cons_succ])
                refine tkEnd ?_
                refine wpAnyH_done (by kernel_rfl) ?_ _
                clear hHeld
                go_wp2_with (rw [HW1.out])
                go_roundw
                case rel => exact ⟨q0, (Z.set q t).set q0 y, by have := HQE.out; omega, by first | rfl | go_num, ⟨HST2.out, HL2.out, HPS.out, HRS.out⟩, HB2.out⟩
                case measure => have := HQE.out; simp [intOf]; omega
              · have hytb : decide (y < t) = false := by simpa using hyt
                have HF : Hid (UpTo Z (i8 + 1)) := HZ.out.2.2.2.fin (.inr (by rw [← hq0e, HTq.out, HYq.out]; omega))
                clear hst hcl hq0e HZ
                go_wp2
                refine wp_region_held_drew (S := fun w' => w'.cell? ⟨g, q, none⟩ = some (.int .i64 y) ∧ w'.cell? ⟨g, q0, none⟩ = some (.int .i64 t)) (by kernel_rfl) ⟨f0, f1⟩ (fun hHeld => ?_)
                refine tkGo [0, 1, 2, 3, 4, 5, 6, 7, 8, 9, 10, 11, 12, 13] ?_
                repeat (refine tkOne (v := ?_) rfl (by kernel_rfl) (by kernel_rfl) (by kernel_rfl) (fun _ _ _ h => h) (by assumption) (by rfl) ?_ ?_; rotate_left; (intro wy hSw; (try dsimp only at hSw); go_simp; (first | done | with_reducible rfl)); try simp only [Act.put, List.getElem_toArray, List.getElem_cons_zero, List.getElem_cons_succ, List.setIfInBounds_toArray, List.set_cons_zero, List.set_cons_succ])
                refine tkEnd ?_
                refine wpAnyH_done (by kernel_rfl) ?_ _
                clear hHeld
                go_wp2
                go_roundw
                case rel => exact ⟨i8 + 1, Z, by omega, .inl (by omega), by go_num, ⟨HR1.out, HZN.out, HP1.out, HF.out⟩, HBd.out⟩
                case measure => simp [intOf]; omega
        · have hitI : ¬ (i8 : Int) < N := by omega
          have hYA : Y = A := by
            refine sorted_eq (fun a b h1 h2 => ?_) (HY.out.2.2.1.trans HPA.out) HAU.out
            rw [HY.out.2.1] at h2
            exact HY.out.2.2.2 a b h1 (by omega)
          have HR := HY.out.1
          rw [hYA] at HR
          have HRR := keepG HR
          clear HR hYA HY
          go_wp2
          go_ret
          exact ⟨_, rfl, HRR.out, HB8.out⟩
end
end Go.Proofs.Ytonbaklbbmmljaa
