
/-
  The landed stats of layer 20: Merge. Condition: each of them lies where its pointer says.
-/
import Derived.Test.YtjhjfojmojjomaaTk
import Derived.Test.YtjhjfojmojjomaaS20LB
namespace Go.Proofs.Ytjhjfojmojjomaa
open Go.RowKit
set_option linter.unusedVariables false
set_option linter.unusedSimpArgs false
set_option maxRecDepth 100000
theorem run_makeTa (w : World) : (Instr.makeSlice 38 (.int .i64 4) (.int .i64 4)).run Try.prog w = .ok (.slice (some ⟨w.heap.size, 0, none⟩) 4 4) (w.alloc (.cells (flatG taC zeroF).toArray 40)) := by
  obtain ⟨i, h1, h2, h3, h4⟩ := info_parts infoTa
  have := run_make (P := Try.prog) w 38 40 i _ Try.underlying38 h1 h2 .i64 .i64 4 4 (by omega) (Int.le_refl _) (by rw [h4]; omega) (by omega)
  have e : madeCells (Value.agg #[.int .u64 0, .int .u64 0, .int .u64 0, .int .u64 0, .int .u64 0]).cells (Int.toNat 4 * 5) = (flatG taC zeroF).toArray := by kernel_rfl
  rw [h3, e] at this
  exact this
abbrev ptC (q : Option Nat) : List Value := [.pointer (q.map (fun b => (⟨b, 0, none⟩ : Addr)))]
/-- All that was told to several, one behind the other. -/
def toldAll (ls : Nat → List To) (qs : List (Option Nat)) : List To := qs.flatMap (fun q => match q with | some b => ls b | none => [])
theorem toldAll_more (ls : Nat → List To) (qs : List (Option Nat)) {j : Nat} (hj : j < qs.length) : toldAll ls (qs.take (j + 1)) = toldAll ls (qs.take j) ++ (match qs.getD j none with | some b => ls b | none => []) := by
  unfold toldAll
  rw [List.take_succ_eq_append_getElem hj, List.flatMap_append]
  simp [List.getD, hj]
theorem run_indexTa {A : List Ta} (hA : A.length = 4) {k : Nat} (hk : k < 4) (w : World) : (Instr.index 52 (.agg (flatG taC A).toArray) (.int .i64 k)).run Try.prog w = .ok (taV (A.getD k Ta.nil)) w := by
  obtain ⟨u0, u1, u2, u3, rfl⟩ := four_of hA
  have h1 : (k : Int) < 4 := by omega
  have hs : (Go.sizeOf 40).run Try.prog w = .ok 5 w := by simp [Go.sizeOf]; rfl
  have ha : (isAgg 40).run Try.prog w = .ok true w := by kernel_rfl
  have e' : (List.take 5 (List.drop (k * 5) (flatG taC [u0, u1, u2, u3]))).toArray = (taC ([u0, u1, u2, u3].getD k Ta.nil)).toArray := by
    have h5 : k = 0 ∨ k = 1 ∨ k = 2 ∨ k = 3 := by omega
    rcases h5 with rfl | rfl | rfl | rfl <;> rfl
  simp [Instr.index, asIntOf, run_underlying Try.underlying52, part, hs, ha, h1, hk, e', taV]
/-- The first n of them added. -/
def addN (S A : List Ta) (n : Nat) : List Ta := (addF S A).take n ++ S.drop n
theorem addN_zero (S A : List Ta) : addN S A 0 = S := by simp [addN]
theorem addN_all {S A : List Ta} (hS : S.length = 4) (hA : A.length = 4) : addN S A 4 = addF S A := by
  obtain ⟨a, b, c, d, rfl⟩ := four_of hS
  obtain ⟨a', b', c', d', rfl⟩ := four_of hA
  rfl
theorem addN_len {S A : List Ta} (hS : S.length = 4) (hA : A.length = 4) {k : Nat} (hk : k ≤ 4) : (addN S A k).length = 4 := by
  obtain ⟨a, b, c, d, rfl⟩ := four_of hS
  obtain ⟨a', b', c', d', rfl⟩ := four_of hA
  have h5 : k = 0 ∨ k = 1 ∨ k = 2 ∨ k = 3 ∨ k = 4 := by omega
  rcases h5 with rfl | rfl | rfl | rfl | rfl <;> rfl
theorem addN_at {S A : List Ta} (hS : S.length = 4) (hA : A.length = 4) {k : Nat} (hk : k < 4) : (addN S A k).getD k Ta.nil = S.getD k Ta.nil := by
  obtain ⟨a, b, c, d, rfl⟩ := four_of hS
  obtain ⟨a', b', c', d', rfl⟩ := four_of hA
  have h5 : k = 0 ∨ k = 1 ∨ k = 2 ∨ k = 3 := by omega
  rcases h5 with rfl | rfl | rfl | rfl <;> rfl
theorem addN_set {S A : List Ta} (hS : S.length = 4) (hA : A.length = 4) {k : Nat} (hk : k < 4) : (addN S A k).set k ((S.getD k Ta.nil).add (A.getD k Ta.nil)) = addN S A (k + 1) := by
  obtain ⟨a, b, c, d, rfl⟩ := four_of hS
  obtain ⟨a', b', c', d', rfl⟩ := four_of hA
  have h5 : k = 0 ∨ k = 1 ∨ k = 2 ∨ k = 3 := by omega
  rcases h5 with rfl | rfl | rfl | rfl <;> rfl
set_option maxHeartbeats 6400000 in
theorem lmergeQ {w : World} {v : Value} {qs : List (Option Nat)} (hs : SeesG ptC 1 none w v qs) (hl : qs.length ≤ 100) {ls : Nat → List To} (hq : ∀ b, some b ∈ qs → Lq w b (ls b)) {A : List Ta} (HA : Hid (four (toldAll ls qs) = A)) : Calls Try.prog 14 #[v] w fun e w' => ∃ u, e = .returned u ∧ RoTa w' w.heap.size u A ∧ Below w.heap.size w w' := by
  obtain ⟨W0, HW0, HP0, HB0⟩ : ∃ W0, Hid (w.alloc (.cells (flatG taC zeroF).toArray 40) = W0) ∧ Hid (Hp W0 w.heap.size 40 (flatG taC (four (toldAll ls [])))) ∧ Hid (Below w.heap.size w W0) := ⟨_, rfl, Hp.new w _ _, below_allocG _ _⟩
  have hmk := run_makeTa w
  rw [HW0.out] at hmk
  have HSB := keepG (fun (wr : World) (hb : Below w.heap.size w wr) => hs.below hb (Nat.le_refl _))
  have HQB : Hid (∀ (wr : World), Below w.heap.size w wr → ∀ b, some b ∈ qs → Lq wr b (ls b) ∧ b < w.heap.size) := fun wr hb b hm => ⟨Hp.below (hq b hm) hb (hq b hm).lt, (hq b hm).lt⟩
  obtain ⟨a, cap, ev, hlc, hmx⟩ := hs.shape
  subst ev
  obtain ⟨g, HG⟩ : ∃ g, Hid (w.heap.size = g) := ⟨_, rfl⟩
  clear hs hq
  go_enter Try.func14, Try.ntmps14
  go_wp2_with (rw [HG.out])
  go_loopw [11] (fun i wr => ∃ j : Nat, j ≤ qs.length ∧ i = .int .i64 j ∧ Hid (Hp wr g 40 (flatG taC (four (toldAll ls (qs.take j))))) ∧ Hid (Below w.heap.size w wr)) (fun i _ => qs.length - (intOf i).toNat)
  case atStart => exact ⟨0, by omega, rfl, by rw [← HG.out]; exact HP0.out, HB0.out⟩
  case round =>
    obtain ⟨j, hj, rfl, HP, HB⟩ := hrel
    rename World => wr
    by_cases hlt : j < qs.length
    · have hltI : (j : Int) < qs.length := by omega
      obtain ⟨a', cap', ev, _, _, _, hc⟩ := HSB.out wr HB.out
      simp only [Value.slice.injEq] at ev
      obtain ⟨rfl, -, rfl⟩ := ev
      obtain ⟨p, off, rfl, _, hat⟩ := hc (fun e => by rw [e] at hlt; simp at hlt)
      have d0 : wr.cell? ⟨p, off + j, none⟩ = some (.pointer ((qs.getD j none).map (fun b => (⟨b, 0, none⟩ : Addr)))) := by have := hat j hlt 0 (by omega); rw [Nat.mul_one, Nat.add_zero] at this; exact this
      have hT := toldAll_more ls qs hlt
      have hm : qs.getD j none ∈ qs := by simp [List.getD, hlt]
      clear hat
      cases hqj : qs.getD j none with
      | none =>
        rw [hqj] at d0 hT
        simp only [Option.map_none, List.append_nil] at d0 hT
        have HT := keepG hT
        clear hT hm hqj
        go_wp2
        go_roundw
        case rel => exact ⟨j + 1, by omega, by go_num, by rw [HT.out]; exact HP.out, HB.out⟩
        case measure => simp [intOf]; omega
      | some b =>
        rw [hqj] at d0 hT hm
        simp only [Option.map_some] at d0 hT
        obtain ⟨hL, hbl⟩ := HQB.out wr HB.out b hm
        have HT : Hid (four (toldAll ls (qs.take (j + 1))) = addF (four (toldAll ls (qs.take j))) (four (ls b))) := by show _ = _; rw [hT, four_app]
        have HS4 := keepG (four_len (toldAll ls (qs.take j)))
        have HSO : Hid (∀ k, k < 4 → ((four (toldAll ls (qs.take j))).getD k Ta.nil).Ok) := fun k hk => by rw [four_at _ hk]; exact ofL_ok _ _
        obtain ⟨Z, HZ⟩ : ∃ Z, Hid (four (toldAll ls (qs.take j)) = Z) := ⟨_, rfl⟩
        have HLB : Hid (Hp wr b 54 (flatG taC (four (ls b)))) := hL
        have HU4 := keepG (four_len (ls b))
        obtain ⟨U, HU⟩ : ∃ U, Hid (four (ls b) = U) := ⟨_, rfl⟩
        rw [HZ.out] at HT HS4 HSO HP
        rw [HU.out] at HT HLB HU4
        have HIX : Hid (∀ k : Nat, k < 4 → ∀ w : World, (Instr.index 52 (.agg (flatG taC U).toArray) (.int .i64 k)).run Try.prog w = .ok (taV (U.getD k Ta.nil)) w) := fun k hk w => run_indexTa HU4.out hk w
        have HRG : Hid (wr.rangeAt b 0 (flatG taC U)) := HLB.out.range (fun i _ => by rw [Nat.zero_add])
        have HI20 : Hid ((Try.prog.info? 52).map (·.size) = some (flatG taC U).length) := by show _ = _; rw [flatG_len taC_len, HU4.out]; rfl
        obtain ⟨zc, HZC⟩ : ∃ zc, Hid (flatG taC U = zc) := ⟨_, rfl⟩
        rw [HZC.out] at HIX HRG HI20
        clear hT hm hqj hL
        go_wp2_with ((with_reducible refine wpList_load_mid ?la 52 (.tmp 19) ?lb b 0 ?lc zc _ HRG.out Try.underlying52 ?ld HI20.out ?le); (case la => rfl); (case lb => rfl); (case lc => rfl); (case ld => rfl))
        go_loopw [21] (fun i wy => ∃ k : Nat, k ≤ 4 ∧ i = .int .i64 k ∧ Hid (Hp wy g 40 (flatG taC (addN Z U k))) ∧ Hid (Below w.heap.size w wy)) (fun i _ => 4 - (intOf i).toNat)
        case atStart => exact ⟨0, by omega, rfl, by rw [addN_zero]; exact HP.out, HB.out⟩
        case round =>
          obtain ⟨k, hk, rfl, HPy, HBy⟩ := hrel
          rename World => wy
          by_cases hk4 : k < 4
          · have hkI : (k : Int) < 4 := by omega
            have HX : Hid ((addN Z U k).getD k Ta.nil = Z.getD k Ta.nil) := addN_at HS4.out HU4.out hk4
            have hO := HSO.out k hk4
            obtain ⟨t, HTE⟩ : ∃ t, Hid (U.getD k Ta.nil = t) := ⟨_, rfl⟩
            have hix := HIX.out k hk4 wy
            rw [HTE.out] at hix
            have HY : Hid ((addN Z U k).set k ((Z.getD k Ta.nil).add t) = addN Z U (k + 1)) := by
              have := addN_set HS4.out HU4.out hk4
              rw [HTE.out] at this
              exact this
            have HL4 := keepG (addN_len HS4.out HU4.out (k := k) (by omega))
            obtain ⟨x, HXE⟩ : ∃ x, Hid (Z.getD k Ta.nil = x) := ⟨_, rfl⟩
            rw [HXE.out] at HX HY hO
            obtain ⟨R, HR⟩ : ∃ R, Hid (x.add t = R) := ⟨_, rfl⟩
            have HS := keepG (sum_two (t := t) hO)
            rw [HR.out] at HS HY
            obtain ⟨xr, xm, xs, xc, xu⟩ := x
            obtain ⟨tr, tm, ts, tc, tu⟩ := t
            unfold taV at hix
            obtain ⟨W0, HW0, HT0, HP0, HB0⟩ : ∃ W0, Hid (wy.alloc (.cells #[.int .u64 tr, .int .u64 tm, .int .u64 ts, .int .u64 tc, .int .u64 tu] 40) = W0) ∧ Hid (Hp W0 wy.heap.size 40 (taC ⟨tr, tm, ts, tc, tu⟩)) ∧ Hid (Hp W0 g 40 (flatG taC (addN Z U k))) ∧ Hid (Below wy.heap.size wy W0) := ⟨_, rfl, Hp.new wy (taC ⟨tr, tm, ts, tc, tu⟩) _, HPy.out.alloc _, below_allocG _ _⟩
            have HBX : Hid (∀ wx : World, Hp wx wy.heap.size 40 (taC ⟨tr, tm, ts, tc, tu⟩) → wx.cell? ⟨wy.heap.size, 0, none⟩ = some (.int .u64 tr) ∧ wx.cell? ⟨wy.heap.size, 1, none⟩ = some (.int .u64 tm) ∧ wx.cell? ⟨wy.heap.size, 2, none⟩ = some (.int .u64 ts) ∧ wx.cell? ⟨wy.heap.size, 3, none⟩ = some (.int .u64 tc) ∧ wx.cell? ⟨wy.heap.size, 4, none⟩ = some (.int .u64 tu)) := fun wx hx => (ta_cells hx).1
            have HSL : Hid (SeesG taC 5 Ta.nil (W0.drew.alloc (.cells #[.int .u64 xr, .int .u64 xm, .int .u64 xs, .int .u64 xc, .int .u64 xu, .int .u64 tr, .int .u64 tm, .int .u64 ts, .int .u64 tc, .int .u64 tu] 40)) (.slice (some ⟨W0.drew.heap.size, 0, none⟩) 2 2) [⟨xr, xm, xs, xc, xu⟩, ⟨tr, tm, ts, tc, tu⟩]) := SeesG.lit taC_len Ta.nil W0.drew 40 _ _ _ rfl rfl (by simp)
            have hgl : g < wy.heap.size := HPy.out.lt
            have hgn2 : ¬ wy.heap.size = g := by omega
            have HBD := keepG (below_drG (Below.refl W0.heap.size W0))
            have HBA : Hid (Below W0.heap.size W0 (W0.drew.alloc (.cells #[.int .u64 xr, .int .u64 xm, .int .u64 xs, .int .u64 xc, .int .u64 xu, .int .u64 tr, .int .u64 tm, .int .u64 ts, .int .u64 tc, .int .u64 tu] 40))) := HBD.out.trans (show Below W0.drew.heap.size W0.drew _ from below_allocG _ _)
            obtain ⟨⟨d0, d1, d2, d3, d4⟩, _⟩ := hp_ta HP0.out (by rw [HL4.out]; exact hk4) HX.out
            go_wp2_with (rw [HW0.out])
            refine wp_region_held_drew (S := fun w' => w'.cell? ⟨wy.heap.size, 0, none⟩ = some (.int .u64 tr) ∧ w'.cell? ⟨wy.heap.size, 1, none⟩ = some (.int .u64 tm) ∧ w'.cell? ⟨wy.heap.size, 2, none⟩ = some (.int .u64 ts) ∧ w'.cell? ⟨wy.heap.size, 3, none⟩ = some (.int .u64 tc) ∧ w'.cell? ⟨wy.heap.size, 4, none⟩ = some (.int .u64 tu)) (by kernel_rfl) (HBX.out W0 HT0.out) (fun hHeld => ?_)
            refine tkGo [0, 1, 2, 3, 4, 6] ?_
            repeat (refine tkOne (v := ?_) rfl (by kernel_rfl) (by kernel_rfl) (by kernel_rfl) (fun _ _ _ h => h) (by assumption) (by rfl) ?_ ?_; rotate_left; (intro wy hSw; (try dsimp only at hSw); go_simp; (first | done | with_reducible rfl)); try simp only [Act.put, List.getElem_toArray, List.getElem_cons_zero, List.getElem_cons_succ, List.setIfInBounds_toArray, List.set_cons_zero, List.set_cons_succ])
            refine tkEnd ?_
            refine wpAnyH_ready (rs := [5]) (by kernel_rfl) (by simp) ?_
            refine AllReadyH.cons rfl (fun KK hK => ?_) AllReadyH.nil
            rw [if_pos (by rfl)]
            go_simp
            refine hK.out _ _ (HBX.out _ HT0.out.drew) (fun hHeld => ?_)
            clear hK KK
            try simp only [Act.put, List.getElem_toArray, List.getElem_cons_zero, List.getElem_cons_succ, List.setIfInBounds_toArray, List.set_cons_zero, List.set_cons_succ]
            refine wpAnyH_ready (rs := [7]) (by kernel_rfl) (by simp) ?_
            refine AllReadyH.cons rfl (fun KK hK => ?_) AllReadyH.nil
            rw [if_pos (by rfl)]
            go_simp
            refine hK.out _ _ (HBX.out _ (HT0.out.below HBA.out HT0.out.lt)) (fun hHeld => ?_)
            clear hK KK
            try simp only [Act.put, List.getElem_toArray, List.getElem_cons_zero, List.getElem_cons_succ, List.setIfInBounds_toArray, List.set_cons_zero, List.set_cons_succ]
            refine wpAnyH_ready (rs := [8]) (by kernel_rfl) (by simp) ?_
            refine AllReadyH.cons rfl (fun KK hK => ?_) AllReadyH.nil
            rw [if_pos (by rfl)]
            go_simp
            go_at_call 15
            refine (ladd HSL.out HS).mono ?_
            rintro e w1 ⟨rfl, hb1⟩
            have HB1 := keepG (HBA.out.trans (hb1.mono HBA.out.size))
            have HP1 := keepG (HP0.out.below HB1.out HP0.out.lt)
            have HT1 := keepG (HT0.out.below HB1.out HT0.out.lt)
            clear hb1
            obtain ⟨Rr, Rm, Rs, Rc, Ru⟩ := R
            unfold taV
            go_simp
            refine hK.out _ _ (HBX.out _ HT1.out) (fun hHeld => ?_)
            clear hK KK
            try simp only [Act.put, List.getElem_toArray, List.getElem_cons_zero, List.getElem_cons_succ, List.setIfInBounds_toArray, List.set_cons_zero, List.set_cons_succ]
            refine tkGo [9] ?_
            repeat (refine tkOne (v := ?_) rfl (by kernel_rfl) (by kernel_rfl) (by kernel_rfl) (fun _ _ _ h => h) (by assumption) (by rfl) ?_ ?_; rotate_left; (intro wy hSw; (try dsimp only at hSw); go_simp; (first | done | with_reducible rfl)); try simp only [Act.put, List.getElem_toArray, List.getElem_cons_zero, List.getElem_cons_succ, List.setIfInBounds_toArray, List.set_cons_zero, List.set_cons_succ])
            refine tkEnd ?_
            obtain ⟨⟨e0, e1, e2, e3, e4⟩, g0, g1, g2, g3, g4⟩ := hp_ta HP1.out (by rw [HL4.out]; exact hk4) HX.out
            have HP2 := keepG (HP1.out.sets (taC ⟨Rr, Rm, Rs, Rc, Ru⟩) (k * 5))
            have HT2 := keepG (HT1.out.fars hgn2 (taC ⟨Rr, Rm, Rs, Rc, Ru⟩) (k * 5))
            rw [splice_ta HL4.out hk4, HY.out] at HP2
            have HB2 : Hid (Below w.heap.size w (w1.setCells g (k * 5) (taC ⟨Rr, Rm, Rs, Rc, Ru⟩))) := (HBy.out.trans ((HB0.out.trans (HB1.out.mono HB0.out.size)).mono HBy.out.size)).trans (grown_to_below (grown_sets g (taC ⟨Rr, Rm, Rs, Rc, Ru⟩) w1 (k * 5)) (Nat.le_of_eq HG.out) (Nat.le_trans HBy.out.size (Nat.le_trans HB0.out.size HB1.out.size)))
            refine wpAnyH_ready (rs := [10]) (by kernel_rfl) (by simp) ?_
            refine AllReadyH.cons rfl (fun KK hK => ?_) AllReadyH.nil
            rw [if_pos (by rfl)]
            go_simp
            refine hK.out _ _ (HBX.out _ HT2.out) (fun hHeld => ?_)
            clear hK KK
            try simp only [Act.put, List.getElem_toArray, List.getElem_cons_zero, List.getElem_cons_succ, List.setIfInBounds_toArray, List.set_cons_zero, List.set_cons_succ]
            refine wpAnyH_done (by kernel_rfl) ?_ _
            clear hHeld
            go_wp2
            go_roundw
            case rel => exact ⟨k + 1, by omega, by go_num, HP2.out, HB2.out⟩
            case measure => simp [intOf]; omega
          · obtain rfl : k = 4 := by omega
            have HE : Hid (addN Z U 4 = four (toldAll ls (qs.take (j + 1)))) := (addN_all HS4.out HU4.out).trans HT.out.symm
            rw [HE.out] at HPy
            go_wp2
            go_roundw
            case rel => exact ⟨j + 1, by omega, by go_num, HPy.out, HBy.out⟩
            case measure => simp [intOf]; omega
    · have hltI : ¬ (j : Int) < qs.length := by omega
      have HE : Hid (four (toldAll ls (qs.take j)) = A) := by show _ = _; rw [List.take_of_length_le (by omega)]; exact HA.out
      rw [HE.out] at HP
      go_wp2
      go_ret
      refine ⟨_, rfl, ?_, HB.out⟩
      rw [← HA.out] at HP ⊢
      exact own_of (cs := flatG taC (four (toldAll ls qs))) (Nat.le_of_eq HG.out) HP.out (Nat.le_refl _) (by simp [maxLen]) rfl rfl
end Go.Proofs.Ytjhjfojmojjomaa
