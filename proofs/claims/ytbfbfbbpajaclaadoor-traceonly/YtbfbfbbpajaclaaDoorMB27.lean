
/-
  What the document's set does: an entry with a word's field set. Condition: the word is no greater than a string may be.
-/
import Derived.Test.YtbfbfbbpajaclaaDoorMB26
namespace Go.Proofs.YtbfbfbbpajaclaaDoor
open Go.RowKit
set_option linter.unusedVariables false
set_option linter.unusedSimpArgs false
set_option maxRecDepth 100000
theorem results_en2 {fn : Func} {p q : Tmp} {ty : TypeId} (h : fn.results = #[.cell p ty, .tmp q]) (tmps : Array Value) (P : Program) (w : World) :
    (results fn tmps).run P w = ((asAddr (tmps.getD p undef)).run P w).andThen fun a w₁ => ((loadVar ty a).run P w₁).andThen fun v w₂ => .ok (.tuple #[v, tmps.getD q undef]) w₂ := by
  simp only [results, h]
  simp [Sem.run_bind, Result.andThen]
theorem en_ret2 {fn : Func} {p q : Tmp} {w2 : World} {n : Nat} {tmps : Array Value} {e : En} {v : Value} {Q : Ending → World → Prop} (hr : fn.results = #[.cell p 36, .tmp q]) (hp : tmps.getD p undef = .pointer (some ⟨n, 0, none⟩)) (hv : tmps.getD q undef = v) (hx : Hp w2 n 36 (enC e)) (hQ : Q (.returned (.tuple #[enV e, v])) w2) : bodyPost Tryd.prog fn Q .ret ⟨tmps, []⟩ w2 := by
  refine bodyPost_ret (v := .tuple #[enV e, v]) ?_ rfl hQ
  rw [results_en2 hr, hp, hv]
  simp only [asAddr, Sem.run_pure, Result.andThen]
  rw [run_boxEn hx]
theorem ret_en2 {a a' : En} {b b' : Bool} (h : (a, b) = (a', b')) : Ending.returned (.tuple #[enV a, .bool b]) = .returned (.tuple #[enV a', .bool b']) := by
  injection h with h1 h2
  rw [h1, h2]
theorem accL_bd : ∀ (l : List UInt8) (U : Int), (0 ≤ U ∧ U < 18446744073709551616) → ∀ x, accL U l = some x → 0 ≤ x ∧ x < 18446744073709551616
  | [], U, h, x, hx => by simp [accL] at hx; omega
  | c :: r, U, h, x, hx => by
    unfold accL at hx
    split at hx
    · cases hx
    · exact accL_bd r _ (by go_arith) x hx
set_option maxHeartbeats 25600000 in
theorem set26 (e : En) (c : UInt8) (l : List UInt8) (w : World) (hl : l.length ≤ 4194304) : Calls Tryd.prog 50 #[enV e, .int .u8 c.toNat, .string (str l)] w fun r w' => r = .returned (.tuple #[enV (setE e c l).1, .bool (setE e c l).2]) ∧ Below w.heap.size w w' := by
  obtain ⟨X, Z, HX, HZ, H1, H2, HB, HZX⟩ := box_two w e
  have HX := HX.out
  dsimp only [enC] at HX
  have HX := keepG HX
  have HZ := HZ.out
  dsimp only [enC, En.nil] at HZ
  have HZ := keepG HZ
  have hzx := HZX.out
  have hcb : c.toNat < 256 := UInt8.toNat_lt c
  obtain ⟨U0, HU0, H50, HBU0⟩ := one_copy H1.out H2.out HB.out
  unfold enV
  by_cases h2 : l.length < 2
  · have h2I : (l.length : Int) < 2 := by omega
    have HE : Hid (setE e c l = (e, false)) := by show _ = _; unfold setE; rw [if_pos h2]
    clear h2
    go_enter Tryd.func50, Tryd.ntmps50
    go_wp2_with (first
      | (rw [HX.out])
      | (rw [HZ.out])
      | ((with_reducible refine wpList_load_mid ?_ 36 (.tmp 3) ?_ w.heap.size 0 ?_ (enC e) _ (enAt H1.out) Tryd.underlying36 ?_ (sizeEn _) ?_); rfl; rfl; rfl; rfl)
      | ((with_reducible refine wpList_store_mid ?_ 36 (.tmp 6) (.tmp 22) ?_ (w.heap.size + 1) 0 (enC e).toArray ?_ ?_ (thereEn H2.out) (sizeEnA _) (oneEn _) ?_); rfl; rfl; rfl; rfl)
      | (rw [HU0.out]))
    refine en_ret2 (n := w.heap.size + 1) (e := e) rfl rfl rfl H50.out ?_
    exact ⟨ret_en2 (by rw [HE.out]), HBU0.out⟩
  have h2I : ¬ (l.length : Int) < 2 := by omega
  have hl0 : 0 < l.length := by omega
  have hl1 : 1 < l.length := by omega
  obtain ⟨a, ha, HA⟩ : ∃ a, (str l)[0]'(hl0) = a ∧ Hid (l.getD 0 0 = a) := ⟨_, rfl, by show _ = _; rw [List.getD_eq_getElem?_getD, List.getElem?_eq_getElem hl0]; rfl⟩
  obtain ⟨b, hb, HBB⟩ : ∃ b, (str l)[1]'(hl1) = b ∧ Hid (l.getD 1 0 = b) := ⟨_, rfl, by show _ = _; rw [List.getD_eq_getElem?_getD, List.getElem?_eq_getElem hl1]; rfl⟩
  have hab : a.toNat < 256 := UInt8.toNat_lt a
  have hbb : b.toNat < 256 := UInt8.toNat_lt b
  by_cases hac : a = c
  rotate_left
  · have hne : ((a.toNat : Int) != (c.toNat : Int)) = true := by
      simp
      intro h
      exact hac (UInt8.toNat_inj.1 (by omega))
    have HE : Hid (setE e c l = (e, false)) := by show _ = _; unfold setE; rw [if_neg h2, if_pos (by rw [HA.out]; exact hac)]
    clear h2 hac
    go_enter Tryd.func50, Tryd.ntmps50
    go_wp2_with (first
      | (rw [HX.out])
      | (rw [HZ.out])
      | ((with_reducible refine wpList_load_mid ?_ 36 (.tmp 3) ?_ w.heap.size 0 ?_ (enC e) _ (enAt H1.out) Tryd.underlying36 ?_ (sizeEn _) ?_); rfl; rfl; rfl; rfl)
      | ((with_reducible refine wpList_store_mid ?_ 36 (.tmp 6) (.tmp 22) ?_ (w.heap.size + 1) 0 (enC e).toArray ?_ ?_ (thereEn H2.out) (sizeEnA _) (oneEn _) ?_); rfl; rfl; rfl; rfl)
      | (rw [HU0.out]))
    refine en_ret2 (n := w.heap.size + 1) (e := e) rfl rfl rfl H50.out ?_
    exact ⟨ret_en2 (by rw [HE.out]), HBU0.out⟩
  have hne : ((a.toNat : Int) != (c.toNat : Int)) = false := by rw [hac]; simp
  have HSE : Hid (setE e c l = setN e c.toNat l (accL 0 (if negL l = true then l.drop 2 else l.drop 1))) := by
    show _ = _
    unfold setE
    rw [if_neg h2, if_neg (by rw [HA.out]; exact not_not_intro hac)]
  clear h2 hac
  by_cases h45 : b.toNat = 45
  · have hnb : ((b.toNat : Int) == 45) = true := by simp; omega
    have HNG : Hid (negL l = true) := by show _ = _; unfold negL; rw [HBB.out]; simp; omega
    have HAT : Hid (setE e c l = setN e c.toNat l (accL 0 (l.drop 2))) := by show _ = _; rw [HSE.out, HNG.out]; rfl
    clear h45
    go_enter Tryd.func50, Tryd.ntmps50
    go_wp2_with (first
      | (rw [HX.out])
      | (rw [HZ.out]))
    go_loopw [10, 11] (fun n i wr => ∃ (k : Nat) (U : Int), 2 ≤ k ∧ k ≤ l.length ∧ i = .int .i64 k ∧ n = .int .u64 U ∧ 0 ≤ U ∧ U < 18446744073709551616 ∧ Z = wr ∧ Hid (accL 0 (l.drop 2) = accL U (l.drop k))) (fun _ i _ => l.length - (intOf i).toNat)
    case atStart => exact ⟨2, 0, by omega, by omega, rfl, rfl, by omega, by omega, rfl, rfl⟩
    case round =>
      obtain ⟨k, U, hk1, hk, rfl, rfl, hU0, hU1, rfl, HG⟩ := hrel
      by_cases hlt : k < l.length
      · obtain ⟨d, hd, HD⟩ : ∃ d, (str l)[k]'(hlt) = d ∧ Hid (l.drop k = d :: l.drop (k + 1)) := ⟨_, rfl, by show _ = _; rw [List.drop_eq_getElem_cons hlt]; rfl⟩
        have hdb : d.toNat < 256 := UInt8.toNat_lt d
        have HS : Hid (accL 0 (l.drop 2) = accL U (d :: l.drop (k + 1))) := by show _ = _; rw [HG.out, HD.out]
        by_cases hbad : d.toNat < 48 ∨ 57 < d.toNat
        · have HE : Hid (setE e c l = (e, false)) := by show _ = _; rw [HAT.out, HS.out]; unfold accL; rw [if_pos hbad]; rfl
          by_cases h48 : d.toNat < 48
          · have t48 : decide ((d.toNat : Int) < 48) = true := by simp; omega
            clear hbad h48
            go_wp2_with (first
              | (rw [HX.out])
              | (rw [HZ.out])
              | ((with_reducible refine wpList_load_mid ?_ 36 (.tmp 3) ?_ w.heap.size 0 ?_ (enC e) _ (enAt H1.out) Tryd.underlying36 ?_ (sizeEn _) ?_); rfl; rfl; rfl; rfl)
              | ((with_reducible refine wpList_store_mid ?_ 36 (.tmp 6) (.tmp 44) ?_ (w.heap.size + 1) 0 (enC e).toArray ?_ ?_ (thereEn H2.out) (sizeEnA _) (oneEn _) ?_); rfl; rfl; rfl; rfl)
              | (rw [HU0.out]))
            refine en_ret2 (n := w.heap.size + 1) (e := e) rfl rfl rfl H50.out ?_
            exact ⟨ret_en2 (by rw [HE.out]), HBU0.out⟩
          · have t48 : decide ((d.toNat : Int) < 48) = false := by simp; omega
            have t57 : decide ((57 : Int) < (d.toNat : Int)) = true := by simp; omega
            clear hbad h48
            go_wp2_with (first
              | (rw [HX.out])
              | (rw [HZ.out])
              | ((with_reducible refine wpList_load_mid ?_ 36 (.tmp 3) ?_ w.heap.size 0 ?_ (enC e) _ (enAt H1.out) Tryd.underlying36 ?_ (sizeEn _) ?_); rfl; rfl; rfl; rfl)
              | ((with_reducible refine wpList_store_mid ?_ 36 (.tmp 6) (.tmp 44) ?_ (w.heap.size + 1) 0 (enC e).toArray ?_ ?_ (thereEn H2.out) (sizeEnA _) (oneEn _) ?_); rfl; rfl; rfl; rfl)
              | (rw [HU0.out]))
            refine en_ret2 (n := w.heap.size + 1) (e := e) rfl rfl rfl H50.out ?_
            exact ⟨ret_en2 (by rw [HE.out]), HBU0.out⟩
        · have t48 : decide ((d.toNat : Int) < 48) = false := by simp; omega
          have t57 : decide ((57 : Int) < (d.toNat : Int)) = false := by simp; omega
          have HN : Hid (accL 0 (l.drop 2) = accL (IntKind.u64.wrap (IntKind.u64.wrap (10 * U) + ((d.toNat : Int) - 48))) (l.drop (k + 1))) := by show _ = _; rw [HS.out]; conv => lhs; unfold accL; rw [if_neg hbad]
          have hd48 : 48 ≤ d.toNat ∧ d.toNat ≤ 57 := by omega
          clear hbad
          go_wp2
          go_roundw
          case rel => exact ⟨k + 1, _, by omega, by omega, by go_num, rfl, by go_arith, by go_arith, by first | rfl | trivial, by first | exact HN.out | (rw [HN.out]; congr 2; go_num)⟩
          case measure => simp [intOf]; omega
      · obtain rfl : k = l.length := by omega
        have HPE : Hid (setE e c l = (putE e c.toNat (wrap64 (IntKind.u64.wrap (-U))) U, true)) := by
          show _ = _
          rw [HAT.out, HG.out, List.drop_length]
          show (putE e c.toNat (kE l U) U, true) = _
          unfold kE
          rw [HNG.out]
          rfl
        by_cases k0 : c.toNat = 116
        · have d0 : ((c.toNat : Int) == 116) = true := by simp; omega
          obtain ⟨Y, V, HY, HV, H3, H4, H5, HBV⟩ := two_copy (e' := { e with ta := wrap64 (IntKind.u64.wrap (-U)) }) (j := 1) (v := .int .i64 (wrap64 (IntKind.u64.wrap (-U)))) H1.out H2.out HB.out rfl
          have c3 := H1.out.cell (j := 1) rfl
          have f3 := H1.out.frozen 1
          have HE : Hid (setE e c l = ({ e with ta := wrap64 (IntKind.u64.wrap (-U)) }, true)) := by show _ = _; rw [HPE.out]; unfold putE; simp [k0]
          go_wp2_with (first
            | (rw [HY.out])
            | ((with_reducible refine wpList_load_mid ?_ 36 (.tmp 3) ?_ w.heap.size 0 ?_ (enC { e with ta := wrap64 (IntKind.u64.wrap (-U)) }) _ (enAt H3.out) Tryd.underlying36 ?_ (sizeEn _) ?_); rfl; rfl; rfl; rfl)
            | ((with_reducible refine wpList_store_mid ?_ 36 (.tmp 6) (.tmp 125) ?_ (w.heap.size + 1) 0 (enC { e with ta := wrap64 (IntKind.u64.wrap (-U)) }).toArray ?_ ?_ (thereEn H4.out) (sizeEnA _) (oneEn _) ?_); rfl; rfl; rfl; rfl)
            | (rw [HV.out]))
          refine en_ret2 (n := w.heap.size + 1) (e := { e with ta := wrap64 (IntKind.u64.wrap (-U)) }) rfl rfl rfl H5.out ?_
          exact ⟨ret_en2 (by rw [HE.out]), HBV.out⟩
        have d0 : ((c.toNat : Int) == 116) = false := by simp; omega
        by_cases k1 : c.toNat = 102
        · have d1 : ((c.toNat : Int) == 102) = true := by simp; omega
          obtain ⟨Y, V, HY, HV, H3, H4, H5, HBV⟩ := two_copy (e' := { e with fr := wrap64 (IntKind.u64.wrap (-U)) }) (j := 2) (v := .int .i64 (wrap64 (IntKind.u64.wrap (-U)))) H1.out H2.out HB.out rfl
          have c3 := H1.out.cell (j := 2) rfl
          have f3 := H1.out.frozen 2
          have HE : Hid (setE e c l = ({ e with fr := wrap64 (IntKind.u64.wrap (-U)) }, true)) := by show _ = _; rw [HPE.out]; unfold putE; simp [k1]
          go_wp2_with (first
            | (rw [HY.out])
            | ((with_reducible refine wpList_load_mid ?_ 36 (.tmp 3) ?_ w.heap.size 0 ?_ (enC { e with fr := wrap64 (IntKind.u64.wrap (-U)) }) _ (enAt H3.out) Tryd.underlying36 ?_ (sizeEn _) ?_); rfl; rfl; rfl; rfl)
            | ((with_reducible refine wpList_store_mid ?_ 36 (.tmp 6) (.tmp 125) ?_ (w.heap.size + 1) 0 (enC { e with fr := wrap64 (IntKind.u64.wrap (-U)) }).toArray ?_ ?_ (thereEn H4.out) (sizeEnA _) (oneEn _) ?_); rfl; rfl; rfl; rfl)
            | (rw [HV.out]))
          refine en_ret2 (n := w.heap.size + 1) (e := { e with fr := wrap64 (IntKind.u64.wrap (-U)) }) rfl rfl rfl H5.out ?_
          exact ⟨ret_en2 (by rw [HE.out]), HBV.out⟩
        have d1 : ((c.toNat : Int) == 102) = false := by simp; omega
        by_cases k2 : c.toNat = 99
        · have d2 : ((c.toNat : Int) == 99) = true := by simp; omega
          obtain ⟨Y, V, HY, HV, H3, H4, H5, HBV⟩ := two_copy (e' := { e with cm := wrap64 (IntKind.u64.wrap (-U)) }) (j := 3) (v := .int .i64 (wrap64 (IntKind.u64.wrap (-U)))) H1.out H2.out HB.out rfl
          have c3 := H1.out.cell (j := 3) rfl
          have f3 := H1.out.frozen 3
          have HE : Hid (setE e c l = ({ e with cm := wrap64 (IntKind.u64.wrap (-U)) }, true)) := by show _ = _; rw [HPE.out]; unfold putE; simp [k2]
          go_wp2_with (first
            | (rw [HY.out])
            | ((with_reducible refine wpList_load_mid ?_ 36 (.tmp 3) ?_ w.heap.size 0 ?_ (enC { e with cm := wrap64 (IntKind.u64.wrap (-U)) }) _ (enAt H3.out) Tryd.underlying36 ?_ (sizeEn _) ?_); rfl; rfl; rfl; rfl)
            | ((with_reducible refine wpList_store_mid ?_ 36 (.tmp 6) (.tmp 125) ?_ (w.heap.size + 1) 0 (enC { e with cm := wrap64 (IntKind.u64.wrap (-U)) }).toArray ?_ ?_ (thereEn H4.out) (sizeEnA _) (oneEn _) ?_); rfl; rfl; rfl; rfl)
            | (rw [HV.out]))
          refine en_ret2 (n := w.heap.size + 1) (e := { e with cm := wrap64 (IntKind.u64.wrap (-U)) }) rfl rfl rfl H5.out ?_
          exact ⟨ret_en2 (by rw [HE.out]), HBV.out⟩
        have d2 : ((c.toNat : Int) == 99) = false := by simp; omega
        by_cases k3 : c.toNat = 103
        · have d3 : ((c.toNat : Int) == 103) = true := by simp; omega
          obtain ⟨Y, V, HY, HV, H3, H4, H5, HBV⟩ := two_copy (e' := { e with tg := wrap64 (IntKind.u64.wrap (-U)) }) (j := 4) (v := .int .i64 (wrap64 (IntKind.u64.wrap (-U)))) H1.out H2.out HB.out rfl
          have c3 := H1.out.cell (j := 4) rfl
          have f3 := H1.out.frozen 4
          have HE : Hid (setE e c l = ({ e with tg := wrap64 (IntKind.u64.wrap (-U)) }, true)) := by show _ = _; rw [HPE.out]; unfold putE; simp [k3]
          go_wp2_with (first
            | (rw [HY.out])
            | ((with_reducible refine wpList_load_mid ?_ 36 (.tmp 3) ?_ w.heap.size 0 ?_ (enC { e with tg := wrap64 (IntKind.u64.wrap (-U)) }) _ (enAt H3.out) Tryd.underlying36 ?_ (sizeEn _) ?_); rfl; rfl; rfl; rfl)
            | ((with_reducible refine wpList_store_mid ?_ 36 (.tmp 6) (.tmp 125) ?_ (w.heap.size + 1) 0 (enC { e with tg := wrap64 (IntKind.u64.wrap (-U)) }).toArray ?_ ?_ (thereEn H4.out) (sizeEnA _) (oneEn _) ?_); rfl; rfl; rfl; rfl)
            | (rw [HV.out]))
          refine en_ret2 (n := w.heap.size + 1) (e := { e with tg := wrap64 (IntKind.u64.wrap (-U)) }) rfl rfl rfl H5.out ?_
          exact ⟨ret_en2 (by rw [HE.out]), HBV.out⟩
        have d3 : ((c.toNat : Int) == 103) = false := by simp; omega
        by_cases k4 : c.toNat = 101
        · have d4 : ((c.toNat : Int) == 101) = true := by simp; omega
          obtain ⟨Y, V, HY, HV, H3, H4, H5, HBV⟩ := two_copy (e' := { e with ev := wrap64 (IntKind.u64.wrap (-U)) }) (j := 5) (v := .int .i64 (wrap64 (IntKind.u64.wrap (-U)))) H1.out H2.out HB.out rfl
          have c3 := H1.out.cell (j := 5) rfl
          have f3 := H1.out.frozen 5
          have HE : Hid (setE e c l = ({ e with ev := wrap64 (IntKind.u64.wrap (-U)) }, true)) := by show _ = _; rw [HPE.out]; unfold putE; simp [k4]
          go_wp2_with (first
            | (rw [HY.out])
            | ((with_reducible refine wpList_load_mid ?_ 36 (.tmp 3) ?_ w.heap.size 0 ?_ (enC { e with ev := wrap64 (IntKind.u64.wrap (-U)) }) _ (enAt H3.out) Tryd.underlying36 ?_ (sizeEn _) ?_); rfl; rfl; rfl; rfl)
            | ((with_reducible refine wpList_store_mid ?_ 36 (.tmp 6) (.tmp 125) ?_ (w.heap.size + 1) 0 (enC { e with ev := wrap64 (IntKind.u64.wrap (-U)) }).toArray ?_ ?_ (thereEn H4.out) (sizeEnA _) (oneEn _) ?_); rfl; rfl; rfl; rfl)
            | (rw [HV.out]))
          refine en_ret2 (n := w.heap.size + 1) (e := { e with ev := wrap64 (IntKind.u64.wrap (-U)) }) rfl rfl rfl H5.out ?_
          exact ⟨ret_en2 (by rw [HE.out]), HBV.out⟩
        have d4 : ((c.toNat : Int) == 101) = false := by simp; omega
        by_cases k5 : c.toNat = 104
        · have d5 : ((c.toNat : Int) == 104) = true := by simp; omega
          obtain ⟨Y, V, HY, HV, H3, H4, H5, HBV⟩ := two_copy (e' := { e with hk := wrap64 (IntKind.u64.wrap (-U)) }) (j := 6) (v := .int .i64 (wrap64 (IntKind.u64.wrap (-U)))) H1.out H2.out HB.out rfl
          have c3 := H1.out.cell (j := 6) rfl
          have f3 := H1.out.frozen 6
          have HE : Hid (setE e c l = ({ e with hk := wrap64 (IntKind.u64.wrap (-U)) }, true)) := by show _ = _; rw [HPE.out]; unfold putE; simp [k5]
          go_wp2_with (first
            | (rw [HY.out])
            | ((with_reducible refine wpList_load_mid ?_ 36 (.tmp 3) ?_ w.heap.size 0 ?_ (enC { e with hk := wrap64 (IntKind.u64.wrap (-U)) }) _ (enAt H3.out) Tryd.underlying36 ?_ (sizeEn _) ?_); rfl; rfl; rfl; rfl)
            | ((with_reducible refine wpList_store_mid ?_ 36 (.tmp 6) (.tmp 125) ?_ (w.heap.size + 1) 0 (enC { e with hk := wrap64 (IntKind.u64.wrap (-U)) }).toArray ?_ ?_ (thereEn H4.out) (sizeEnA _) (oneEn _) ?_); rfl; rfl; rfl; rfl)
            | (rw [HV.out]))
          refine en_ret2 (n := w.heap.size + 1) (e := { e with hk := wrap64 (IntKind.u64.wrap (-U)) }) rfl rfl rfl H5.out ?_
          exact ⟨ret_en2 (by rw [HE.out]), HBV.out⟩
        have d5 : ((c.toNat : Int) == 104) = false := by simp; omega
        by_cases k6 : c.toNat = 112
        · have d6 : ((c.toNat : Int) == 112) = true := by simp; omega
          obtain ⟨Y, V, HY, HV, H3, H4, H5, HBV⟩ := two_copy (e' := { e with pg := wrap64 (IntKind.u64.wrap (-U)) }) (j := 7) (v := .int .i64 (wrap64 (IntKind.u64.wrap (-U)))) H1.out H2.out HB.out rfl
          have c3 := H1.out.cell (j := 7) rfl
          have f3 := H1.out.frozen 7
          have HE : Hid (setE e c l = ({ e with pg := wrap64 (IntKind.u64.wrap (-U)) }, true)) := by show _ = _; rw [HPE.out]; unfold putE; simp [k6]
          go_wp2_with (first
            | (rw [HY.out])
            | ((with_reducible refine wpList_load_mid ?_ 36 (.tmp 3) ?_ w.heap.size 0 ?_ (enC { e with pg := wrap64 (IntKind.u64.wrap (-U)) }) _ (enAt H3.out) Tryd.underlying36 ?_ (sizeEn _) ?_); rfl; rfl; rfl; rfl)
            | ((with_reducible refine wpList_store_mid ?_ 36 (.tmp 6) (.tmp 125) ?_ (w.heap.size + 1) 0 (enC { e with pg := wrap64 (IntKind.u64.wrap (-U)) }).toArray ?_ ?_ (thereEn H4.out) (sizeEnA _) (oneEn _) ?_); rfl; rfl; rfl; rfl)
            | (rw [HV.out]))
          refine en_ret2 (n := w.heap.size + 1) (e := { e with pg := wrap64 (IntKind.u64.wrap (-U)) }) rfl rfl rfl H5.out ?_
          exact ⟨ret_en2 (by rw [HE.out]), HBV.out⟩
        have d6 : ((c.toNat : Int) == 112) = false := by simp; omega
        by_cases k7 : c.toNat = 118
        · have d7 : ((c.toNat : Int) == 118) = true := by simp; omega
          obtain ⟨Y, V, HY, HV, H3, H4, H5, HBV⟩ := two_copy (e' := { e with ve := wrap64 (IntKind.u64.wrap (-U)) }) (j := 8) (v := .int .i64 (wrap64 (IntKind.u64.wrap (-U)))) H1.out H2.out HB.out rfl
          have c3 := H1.out.cell (j := 8) rfl
          have f3 := H1.out.frozen 8
          have HE : Hid (setE e c l = ({ e with ve := wrap64 (IntKind.u64.wrap (-U)) }, true)) := by show _ = _; rw [HPE.out]; unfold putE; simp [k7]
          go_wp2_with (first
            | (rw [HY.out])
            | ((with_reducible refine wpList_load_mid ?_ 36 (.tmp 3) ?_ w.heap.size 0 ?_ (enC { e with ve := wrap64 (IntKind.u64.wrap (-U)) }) _ (enAt H3.out) Tryd.underlying36 ?_ (sizeEn _) ?_); rfl; rfl; rfl; rfl)
            | ((with_reducible refine wpList_store_mid ?_ 36 (.tmp 6) (.tmp 125) ?_ (w.heap.size + 1) 0 (enC { e with ve := wrap64 (IntKind.u64.wrap (-U)) }).toArray ?_ ?_ (thereEn H4.out) (sizeEnA _) (oneEn _) ?_); rfl; rfl; rfl; rfl)
            | (rw [HV.out]))
          refine en_ret2 (n := w.heap.size + 1) (e := { e with ve := wrap64 (IntKind.u64.wrap (-U)) }) rfl rfl rfl H5.out ?_
          exact ⟨ret_en2 (by rw [HE.out]), HBV.out⟩
        have d7 : ((c.toNat : Int) == 118) = false := by simp; omega
        by_cases k8 : c.toNat = 97
        · have d8 : ((c.toNat : Int) == 97) = true := by simp; omega
          obtain ⟨Y, V, HY, HV, H3, H4, H5, HBV⟩ := two_copy (e' := { e with pc := wrap64 (IntKind.u64.wrap (-U)) }) (j := 9) (v := .int .i64 (wrap64 (IntKind.u64.wrap (-U)))) H1.out H2.out HB.out rfl
          have c3 := H1.out.cell (j := 9) rfl
          have f3 := H1.out.frozen 9
          have HE : Hid (setE e c l = ({ e with pc := wrap64 (IntKind.u64.wrap (-U)) }, true)) := by show _ = _; rw [HPE.out]; unfold putE; simp [k8]
          go_wp2_with (first
            | (rw [HY.out])
            | ((with_reducible refine wpList_load_mid ?_ 36 (.tmp 3) ?_ w.heap.size 0 ?_ (enC { e with pc := wrap64 (IntKind.u64.wrap (-U)) }) _ (enAt H3.out) Tryd.underlying36 ?_ (sizeEn _) ?_); rfl; rfl; rfl; rfl)
            | ((with_reducible refine wpList_store_mid ?_ 36 (.tmp 6) (.tmp 125) ?_ (w.heap.size + 1) 0 (enC { e with pc := wrap64 (IntKind.u64.wrap (-U)) }).toArray ?_ ?_ (thereEn H4.out) (sizeEnA _) (oneEn _) ?_); rfl; rfl; rfl; rfl)
            | (rw [HV.out]))
          refine en_ret2 (n := w.heap.size + 1) (e := { e with pc := wrap64 (IntKind.u64.wrap (-U)) }) rfl rfl rfl H5.out ?_
          exact ⟨ret_en2 (by rw [HE.out]), HBV.out⟩
        have d8 : ((c.toNat : Int) == 97) = false := by simp; omega
        by_cases k9 : c.toNat = 120
        · have d9 : ((c.toNat : Int) == 120) = true := by simp; omega
          obtain ⟨Y, V, HY, HV, H3, H4, H5, HBV⟩ := two_copy (e' := { e with xe := wrap64 (IntKind.u64.wrap (-U)) }) (j := 21) (v := .int .i64 (wrap64 (IntKind.u64.wrap (-U)))) H1.out H2.out HB.out rfl
          have c3 := H1.out.cell (j := 21) rfl
          have f3 := H1.out.frozen 21
          have HE : Hid (setE e c l = ({ e with xe := wrap64 (IntKind.u64.wrap (-U)) }, true)) := by show _ = _; rw [HPE.out]; unfold putE; simp [k9]
          go_wp2_with (first
            | (rw [HY.out])
            | ((with_reducible refine wpList_load_mid ?_ 36 (.tmp 3) ?_ w.heap.size 0 ?_ (enC { e with xe := wrap64 (IntKind.u64.wrap (-U)) }) _ (enAt H3.out) Tryd.underlying36 ?_ (sizeEn _) ?_); rfl; rfl; rfl; rfl)
            | ((with_reducible refine wpList_store_mid ?_ 36 (.tmp 6) (.tmp 125) ?_ (w.heap.size + 1) 0 (enC { e with xe := wrap64 (IntKind.u64.wrap (-U)) }).toArray ?_ ?_ (thereEn H4.out) (sizeEnA _) (oneEn _) ?_); rfl; rfl; rfl; rfl)
            | (rw [HV.out]))
          refine en_ret2 (n := w.heap.size + 1) (e := { e with xe := wrap64 (IntKind.u64.wrap (-U)) }) rfl rfl rfl H5.out ?_
          exact ⟨ret_en2 (by rw [HE.out]), HBV.out⟩
        have d9 : ((c.toNat : Int) == 120) = false := by simp; omega
        by_cases k10 : c.toNat = 109
        · have d10 : ((c.toNat : Int) == 109) = true := by simp; omega
          obtain ⟨Y, V, HY, HV, H3, H4, H5, HBV⟩ := two_copy (e' := { e with mp := wrap64 (IntKind.u64.wrap (-U)) }) (j := 10) (v := .int .i64 (wrap64 (IntKind.u64.wrap (-U)))) H1.out H2.out HB.out rfl
          have c3 := H1.out.cell (j := 10) rfl
          have f3 := H1.out.frozen 10
          have HE : Hid (setE e c l = ({ e with mp := wrap64 (IntKind.u64.wrap (-U)) }, true)) := by show _ = _; rw [HPE.out]; unfold putE; simp [k10]
          go_wp2_with (first
            | (rw [HY.out])
            | ((with_reducible refine wpList_load_mid ?_ 36 (.tmp 3) ?_ w.heap.size 0 ?_ (enC { e with mp := wrap64 (IntKind.u64.wrap (-U)) }) _ (enAt H3.out) Tryd.underlying36 ?_ (sizeEn _) ?_); rfl; rfl; rfl; rfl)
            | ((with_reducible refine wpList_store_mid ?_ 36 (.tmp 6) (.tmp 125) ?_ (w.heap.size + 1) 0 (enC { e with mp := wrap64 (IntKind.u64.wrap (-U)) }).toArray ?_ ?_ (thereEn H4.out) (sizeEnA _) (oneEn _) ?_); rfl; rfl; rfl; rfl)
            | (rw [HV.out]))
          refine en_ret2 (n := w.heap.size + 1) (e := { e with mp := wrap64 (IntKind.u64.wrap (-U)) }) rfl rfl rfl H5.out ?_
          exact ⟨ret_en2 (by rw [HE.out]), HBV.out⟩
        have d10 : ((c.toNat : Int) == 109) = false := by simp; omega
        by_cases k11 : c.toNat = 111
        · have d11 : ((c.toNat : Int) == 111) = true := by simp; omega
          obtain ⟨Y, V, HY, HV, H3, H4, H5, HBV⟩ := two_copy (e' := { e with op := wrap64 (IntKind.u64.wrap (-U)) }) (j := 11) (v := .int .i64 (wrap64 (IntKind.u64.wrap (-U)))) H1.out H2.out HB.out rfl
          have c3 := H1.out.cell (j := 11) rfl
          have f3 := H1.out.frozen 11
          have HE : Hid (setE e c l = ({ e with op := wrap64 (IntKind.u64.wrap (-U)) }, true)) := by show _ = _; rw [HPE.out]; unfold putE; simp [k11]
          go_wp2_with (first
            | (rw [HY.out])
            | ((with_reducible refine wpList_load_mid ?_ 36 (.tmp 3) ?_ w.heap.size 0 ?_ (enC { e with op := wrap64 (IntKind.u64.wrap (-U)) }) _ (enAt H3.out) Tryd.underlying36 ?_ (sizeEn _) ?_); rfl; rfl; rfl; rfl)
            | ((with_reducible refine wpList_store_mid ?_ 36 (.tmp 6) (.tmp 125) ?_ (w.heap.size + 1) 0 (enC { e with op := wrap64 (IntKind.u64.wrap (-U)) }).toArray ?_ ?_ (thereEn H4.out) (sizeEnA _) (oneEn _) ?_); rfl; rfl; rfl; rfl)
            | (rw [HV.out]))
          refine en_ret2 (n := w.heap.size + 1) (e := { e with op := wrap64 (IntKind.u64.wrap (-U)) }) rfl rfl rfl H5.out ?_
          exact ⟨ret_en2 (by rw [HE.out]), HBV.out⟩
        have d11 : ((c.toNat : Int) == 111) = false := by simp; omega
        by_cases k12 : c.toNat = 121
        · have d12 : ((c.toNat : Int) == 121) = true := by simp; omega
          obtain ⟨Y, V, HY, HV, H3, H4, H5, HBV⟩ := two_copy (e' := { e with er := wrap64 (IntKind.u64.wrap (-U)) }) (j := 14) (v := .int .i64 (wrap64 (IntKind.u64.wrap (-U)))) H1.out H2.out HB.out rfl
          have c3 := H1.out.cell (j := 14) rfl
          have f3 := H1.out.frozen 14
          have HE : Hid (setE e c l = ({ e with er := wrap64 (IntKind.u64.wrap (-U)) }, true)) := by show _ = _; rw [HPE.out]; unfold putE; simp [k12]
          go_wp2_with (first
            | (rw [HY.out])
            | ((with_reducible refine wpList_load_mid ?_ 36 (.tmp 3) ?_ w.heap.size 0 ?_ (enC { e with er := wrap64 (IntKind.u64.wrap (-U)) }) _ (enAt H3.out) Tryd.underlying36 ?_ (sizeEn _) ?_); rfl; rfl; rfl; rfl)
            | ((with_reducible refine wpList_store_mid ?_ 36 (.tmp 6) (.tmp 125) ?_ (w.heap.size + 1) 0 (enC { e with er := wrap64 (IntKind.u64.wrap (-U)) }).toArray ?_ ?_ (thereEn H4.out) (sizeEnA _) (oneEn _) ?_); rfl; rfl; rfl; rfl)
            | (rw [HV.out]))
          refine en_ret2 (n := w.heap.size + 1) (e := { e with er := wrap64 (IntKind.u64.wrap (-U)) }) rfl rfl rfl H5.out ?_
          exact ⟨ret_en2 (by rw [HE.out]), HBV.out⟩
        have d12 : ((c.toNat : Int) == 121) = false := by simp; omega
        by_cases k13 : c.toNat = 98
        · have d13 : ((c.toNat : Int) == 98) = true := by simp; omega
          obtain ⟨Y, V, HY, HV, H3, H4, H5, HBV⟩ := two_copy (e' := { e with fo := wrap64 (IntKind.u64.wrap (-U)) == 1 }) (j := 15) (v := .bool (wrap64 (IntKind.u64.wrap (-U)) == 1)) H1.out H2.out HB.out rfl
          have c3 := H1.out.cell (j := 15) rfl
          have f3 := H1.out.frozen 15
          have HE : Hid (setE e c l = ({ e with fo := wrap64 (IntKind.u64.wrap (-U)) == 1 }, true)) := by show _ = _; rw [HPE.out]; unfold putE; simp [k13]
          go_wp2_with (first
            | (rw [HY.out])
            | ((with_reducible refine wpList_load_mid ?_ 36 (.tmp 3) ?_ w.heap.size 0 ?_ (enC { e with fo := wrap64 (IntKind.u64.wrap (-U)) == 1 }) _ (enAt H3.out) Tryd.underlying36 ?_ (sizeEn _) ?_); rfl; rfl; rfl; rfl)
            | ((with_reducible refine wpList_store_mid ?_ 36 (.tmp 6) (.tmp 125) ?_ (w.heap.size + 1) 0 (enC { e with fo := wrap64 (IntKind.u64.wrap (-U)) == 1 }).toArray ?_ ?_ (thereEn H4.out) (sizeEnA _) (oneEn _) ?_); rfl; rfl; rfl; rfl)
            | (rw [HV.out]))
          refine en_ret2 (n := w.heap.size + 1) (e := { e with fo := wrap64 (IntKind.u64.wrap (-U)) == 1 }) rfl rfl rfl H5.out ?_
          exact ⟨ret_en2 (by rw [HE.out]), HBV.out⟩
        have d13 : ((c.toNat : Int) == 98) = false := by simp; omega
        have HE : Hid (setE e c l = (brE e c.toNat U, true)) := by
          show _ = _
          rw [HPE.out]
          unfold putE
          rw [if_neg k0, if_neg k1, if_neg k2, if_neg k3, if_neg k4, if_neg k5, if_neg k6, if_neg k7, if_neg k8, if_neg k9, if_neg k10, if_neg k11, if_neg k12, if_neg k13]
        clear k0 k1 k2 k3 k4 k5 k6 k7 k8 k9 k10 k11 k12 k13
        obtain ⟨ev, HEV⟩ : ∃ ev, Hid (brE e c.toNat U = ev) := ⟨_, rfl⟩
        have HBR := keepG (broad26 e c.toNat U Z hcb)
        rw [HEV.out] at HBR HE
        go_wp2_with (first
          | ((with_reducible refine wpList_load_mid ?_ 36 (.tmp 3) ?_ w.heap.size 0 ?_ (enC e) _ (enAt H1.out) Tryd.underlying36 ?_ (sizeEn _) ?_); rfl; rfl; rfl; rfl)
          | (go_at_call 64; go_must (refine HBR.out.mono ?_); rintro e1 w1 ⟨rfl, hb1⟩; go_must (have H6 := keepG (H2.out.below hb1 H2.out.lt); have HB6 := keepG (HB.out.trans (hb1.mono HB.out.size)); obtain ⟨V, HV, H7, HBV⟩ : ∃ V, Hid (w1.setCells (w.heap.size + 1) 0 (enC ev).toArray.toList = V) ∧ Hid (Hp V (w.heap.size + 1) 36 (enC ev)) ∧ Hid (Below w.heap.size w V) := ⟨_, rfl, setsEn ev H6.out, HB6.out.trans (grown_to_below (grown_sets (w.heap.size + 1) (enC ev).toArray.toList _ 0) (by omega) HB6.out.size)⟩; clear hb1))
          | ((with_reducible refine wpList_store_mid ?_ 36 (.tmp 6) (.tmp 63) ?_ (w.heap.size + 1) 0 (enC ev).toArray ?_ ?_ (thereEn H6.out) (sizeEnA _) (oneEn _) ?_); rfl; rfl; rfl; rfl)
          | (rw [HV.out]))
        refine en_ret2 (n := w.heap.size + 1) (e := ev) rfl rfl rfl H7.out ?_
        exact ⟨ret_en2 (by rw [HE.out]), HBV.out⟩
  · have hnb : ((b.toNat : Int) == 45) = false := by simp; omega
    have HNG : Hid (negL l = false) := by show _ = _; unfold negL; rw [HBB.out]; simp; omega
    have HAT : Hid (setE e c l = setN e c.toNat l (accL 0 (l.drop 1))) := by show _ = _; rw [HSE.out, HNG.out]; rfl
    clear h45
    go_enter Tryd.func50, Tryd.ntmps50
    go_wp2_with (first
      | (rw [HX.out])
      | (rw [HZ.out]))
    go_loopw [10, 11] (fun n i wr => ∃ (k : Nat) (U : Int), 1 ≤ k ∧ k ≤ l.length ∧ i = .int .i64 k ∧ n = .int .u64 U ∧ 0 ≤ U ∧ U < 18446744073709551616 ∧ Z = wr ∧ Hid (accL 0 (l.drop 1) = accL U (l.drop k))) (fun _ i _ => l.length - (intOf i).toNat)
    case atStart => exact ⟨1, 0, by omega, by omega, rfl, rfl, by omega, by omega, rfl, rfl⟩
    case round =>
      obtain ⟨k, U, hk1, hk, rfl, rfl, hU0, hU1, rfl, HG⟩ := hrel
      by_cases hlt : k < l.length
      · obtain ⟨d, hd, HD⟩ : ∃ d, (str l)[k]'(hlt) = d ∧ Hid (l.drop k = d :: l.drop (k + 1)) := ⟨_, rfl, by show _ = _; rw [List.drop_eq_getElem_cons hlt]; rfl⟩
        have hdb : d.toNat < 256 := UInt8.toNat_lt d
        have HS : Hid (accL 0 (l.drop 1) = accL U (d :: l.drop (k + 1))) := by show _ = _; rw [HG.out, HD.out]
        by_cases hbad : d.toNat < 48 ∨ 57 < d.toNat
        · have HE : Hid (setE e c l = (e, false)) := by show _ = _; rw [HAT.out, HS.out]; unfold accL; rw [if_pos hbad]; rfl
          by_cases h48 : d.toNat < 48
          · have t48 : decide ((d.toNat : Int) < 48) = true := by simp; omega
            clear hbad h48
            go_wp2_with (first
              | (rw [HX.out])
              | (rw [HZ.out])
              | ((with_reducible refine wpList_load_mid ?_ 36 (.tmp 3) ?_ w.heap.size 0 ?_ (enC e) _ (enAt H1.out) Tryd.underlying36 ?_ (sizeEn _) ?_); rfl; rfl; rfl; rfl)
              | ((with_reducible refine wpList_store_mid ?_ 36 (.tmp 6) (.tmp 44) ?_ (w.heap.size + 1) 0 (enC e).toArray ?_ ?_ (thereEn H2.out) (sizeEnA _) (oneEn _) ?_); rfl; rfl; rfl; rfl)
              | (rw [HU0.out]))
            refine en_ret2 (n := w.heap.size + 1) (e := e) rfl rfl rfl H50.out ?_
            exact ⟨ret_en2 (by rw [HE.out]), HBU0.out⟩
          · have t48 : decide ((d.toNat : Int) < 48) = false := by simp; omega
            have t57 : decide ((57 : Int) < (d.toNat : Int)) = true := by simp; omega
            clear hbad h48
            go_wp2_with (first
              | (rw [HX.out])
              | (rw [HZ.out])
              | ((with_reducible refine wpList_load_mid ?_ 36 (.tmp 3) ?_ w.heap.size 0 ?_ (enC e) _ (enAt H1.out) Tryd.underlying36 ?_ (sizeEn _) ?_); rfl; rfl; rfl; rfl)
              | ((with_reducible refine wpList_store_mid ?_ 36 (.tmp 6) (.tmp 44) ?_ (w.heap.size + 1) 0 (enC e).toArray ?_ ?_ (thereEn H2.out) (sizeEnA _) (oneEn _) ?_); rfl; rfl; rfl; rfl)
              | (rw [HU0.out]))
            refine en_ret2 (n := w.heap.size + 1) (e := e) rfl rfl rfl H50.out ?_
            exact ⟨ret_en2 (by rw [HE.out]), HBU0.out⟩
        · have t48 : decide ((d.toNat : Int) < 48) = false := by simp; omega
          have t57 : decide ((57 : Int) < (d.toNat : Int)) = false := by simp; omega
          have HN : Hid (accL 0 (l.drop 1) = accL (IntKind.u64.wrap (IntKind.u64.wrap (10 * U) + ((d.toNat : Int) - 48))) (l.drop (k + 1))) := by show _ = _; rw [HS.out]; conv => lhs; unfold accL; rw [if_neg hbad]
          have hd48 : 48 ≤ d.toNat ∧ d.toNat ≤ 57 := by omega
          clear hbad
          go_wp2
          go_roundw
          case rel => exact ⟨k + 1, _, by omega, by omega, by go_num, rfl, by go_arith, by go_arith, by first | rfl | trivial, by first | exact HN.out | (rw [HN.out]; congr 2; go_num)⟩
          case measure => simp [intOf]; omega
      · obtain rfl : k = l.length := by omega
        have HPE : Hid (setE e c l = (putE e c.toNat (wrap64 U) U, true)) := by
          show _ = _
          rw [HAT.out, HG.out, List.drop_length]
          show (putE e c.toNat (kE l U) U, true) = _
          unfold kE
          rw [HNG.out]
          rfl
        by_cases k0 : c.toNat = 116
        · have d0 : ((c.toNat : Int) == 116) = true := by simp; omega
          obtain ⟨Y, V, HY, HV, H3, H4, H5, HBV⟩ := two_copy (e' := { e with ta := wrap64 U }) (j := 1) (v := .int .i64 (wrap64 U)) H1.out H2.out HB.out rfl
          have c3 := H1.out.cell (j := 1) rfl
          have f3 := H1.out.frozen 1
          have HE : Hid (setE e c l = ({ e with ta := wrap64 U }, true)) := by show _ = _; rw [HPE.out]; unfold putE; simp [k0]
          go_wp2_with (first
            | (rw [HY.out])
            | ((with_reducible refine wpList_load_mid ?_ 36 (.tmp 3) ?_ w.heap.size 0 ?_ (enC { e with ta := wrap64 U }) _ (enAt H3.out) Tryd.underlying36 ?_ (sizeEn _) ?_); rfl; rfl; rfl; rfl)
            | ((with_reducible refine wpList_store_mid ?_ 36 (.tmp 6) (.tmp 125) ?_ (w.heap.size + 1) 0 (enC { e with ta := wrap64 U }).toArray ?_ ?_ (thereEn H4.out) (sizeEnA _) (oneEn _) ?_); rfl; rfl; rfl; rfl)
            | (rw [HV.out]))
          refine en_ret2 (n := w.heap.size + 1) (e := { e with ta := wrap64 U }) rfl rfl rfl H5.out ?_
          exact ⟨ret_en2 (by rw [HE.out]), HBV.out⟩
        have d0 : ((c.toNat : Int) == 116) = false := by simp; omega
        by_cases k1 : c.toNat = 102
        · have d1 : ((c.toNat : Int) == 102) = true := by simp; omega
          obtain ⟨Y, V, HY, HV, H3, H4, H5, HBV⟩ := two_copy (e' := { e with fr := wrap64 U }) (j := 2) (v := .int .i64 (wrap64 U)) H1.out H2.out HB.out rfl
          have c3 := H1.out.cell (j := 2) rfl
          have f3 := H1.out.frozen 2
          have HE : Hid (setE e c l = ({ e with fr := wrap64 U }, true)) := by show _ = _; rw [HPE.out]; unfold putE; simp [k1]
          go_wp2_with (first
            | (rw [HY.out])
            | ((with_reducible refine wpList_load_mid ?_ 36 (.tmp 3) ?_ w.heap.size 0 ?_ (enC { e with fr := wrap64 U }) _ (enAt H3.out) Tryd.underlying36 ?_ (sizeEn _) ?_); rfl; rfl; rfl; rfl)
            | ((with_reducible refine wpList_store_mid ?_ 36 (.tmp 6) (.tmp 125) ?_ (w.heap.size + 1) 0 (enC { e with fr := wrap64 U }).toArray ?_ ?_ (thereEn H4.out) (sizeEnA _) (oneEn _) ?_); rfl; rfl; rfl; rfl)
            | (rw [HV.out]))
          refine en_ret2 (n := w.heap.size + 1) (e := { e with fr := wrap64 U }) rfl rfl rfl H5.out ?_
          exact ⟨ret_en2 (by rw [HE.out]), HBV.out⟩
        have d1 : ((c.toNat : Int) == 102) = false := by simp; omega
        by_cases k2 : c.toNat = 99
        · have d2 : ((c.toNat : Int) == 99) = true := by simp; omega
          obtain ⟨Y, V, HY, HV, H3, H4, H5, HBV⟩ := two_copy (e' := { e with cm := wrap64 U }) (j := 3) (v := .int .i64 (wrap64 U)) H1.out H2.out HB.out rfl
          have c3 := H1.out.cell (j := 3) rfl
          have f3 := H1.out.frozen 3
          have HE : Hid (setE e c l = ({ e with cm := wrap64 U }, true)) := by show _ = _; rw [HPE.out]; unfold putE; simp [k2]
          go_wp2_with (first
            | (rw [HY.out])
            | ((with_reducible refine wpList_load_mid ?_ 36 (.tmp 3) ?_ w.heap.size 0 ?_ (enC { e with cm := wrap64 U }) _ (enAt H3.out) Tryd.underlying36 ?_ (sizeEn _) ?_); rfl; rfl; rfl; rfl)
            | ((with_reducible refine wpList_store_mid ?_ 36 (.tmp 6) (.tmp 125) ?_ (w.heap.size + 1) 0 (enC { e with cm := wrap64 U }).toArray ?_ ?_ (thereEn H4.out) (sizeEnA _) (oneEn _) ?_); rfl; rfl; rfl; rfl)
            | (rw [HV.out]))
          refine en_ret2 (n := w.heap.size + 1) (e := { e with cm := wrap64 U }) rfl rfl rfl H5.out ?_
          exact ⟨ret_en2 (by rw [HE.out]), HBV.out⟩
        have d2 : ((c.toNat : Int) == 99) = false := by simp; omega
        by_cases k3 : c.toNat = 103
        · have d3 : ((c.toNat : Int) == 103) = true := by simp; omega
          obtain ⟨Y, V, HY, HV, H3, H4, H5, HBV⟩ := two_copy (e' := { e with tg := wrap64 U }) (j := 4) (v := .int .i64 (wrap64 U)) H1.out H2.out HB.out rfl
          have c3 := H1.out.cell (j := 4) rfl
          have f3 := H1.out.frozen 4
          have HE : Hid (setE e c l = ({ e with tg := wrap64 U }, true)) := by show _ = _; rw [HPE.out]; unfold putE; simp [k3]
          go_wp2_with (first
            | (rw [HY.out])
            | ((with_reducible refine wpList_load_mid ?_ 36 (.tmp 3) ?_ w.heap.size 0 ?_ (enC { e with tg := wrap64 U }) _ (enAt H3.out) Tryd.underlying36 ?_ (sizeEn _) ?_); rfl; rfl; rfl; rfl)
            | ((with_reducible refine wpList_store_mid ?_ 36 (.tmp 6) (.tmp 125) ?_ (w.heap.size + 1) 0 (enC { e with tg := wrap64 U }).toArray ?_ ?_ (thereEn H4.out) (sizeEnA _) (oneEn _) ?_); rfl; rfl; rfl; rfl)
            | (rw [HV.out]))
          refine en_ret2 (n := w.heap.size + 1) (e := { e with tg := wrap64 U }) rfl rfl rfl H5.out ?_
          exact ⟨ret_en2 (by rw [HE.out]), HBV.out⟩
        have d3 : ((c.toNat : Int) == 103) = false := by simp; omega
        by_cases k4 : c.toNat = 101
        · have d4 : ((c.toNat : Int) == 101) = true := by simp; omega
          obtain ⟨Y, V, HY, HV, H3, H4, H5, HBV⟩ := two_copy (e' := { e with ev := wrap64 U }) (j := 5) (v := .int .i64 (wrap64 U)) H1.out H2.out HB.out rfl
          have c3 := H1.out.cell (j := 5) rfl
          have f3 := H1.out.frozen 5
          have HE : Hid (setE e c l = ({ e with ev := wrap64 U }, true)) := by show _ = _; rw [HPE.out]; unfold putE; simp [k4]
          go_wp2_with (first
            | (rw [HY.out])
            | ((with_reducible refine wpList_load_mid ?_ 36 (.tmp 3) ?_ w.heap.size 0 ?_ (enC { e with ev := wrap64 U }) _ (enAt H3.out) Tryd.underlying36 ?_ (sizeEn _) ?_); rfl; rfl; rfl; rfl)
            | ((with_reducible refine wpList_store_mid ?_ 36 (.tmp 6) (.tmp 125) ?_ (w.heap.size + 1) 0 (enC { e with ev := wrap64 U }).toArray ?_ ?_ (thereEn H4.out) (sizeEnA _) (oneEn _) ?_); rfl; rfl; rfl; rfl)
            | (rw [HV.out]))
          refine en_ret2 (n := w.heap.size + 1) (e := { e with ev := wrap64 U }) rfl rfl rfl H5.out ?_
          exact ⟨ret_en2 (by rw [HE.out]), HBV.out⟩
        have d4 : ((c.toNat : Int) == 101) = false := by simp; omega
        by_cases k5 : c.toNat = 104
        · have d5 : ((c.toNat : Int) == 104) = true := by simp; omega
          obtain ⟨Y, V, HY, HV, H3, H4, H5, HBV⟩ := two_copy (e' := { e with hk := wrap64 U }) (j := 6) (v := .int .i64 (wrap64 U)) H1.out H2.out HB.out rfl
          have c3 := H1.out.cell (j := 6) rfl
          have f3 := H1.out.frozen 6
          have HE : Hid (setE e c l = ({ e with hk := wrap64 U }, true)) := by show _ = _; rw [HPE.out]; unfold putE; simp [k5]
          go_wp2_with (first
            | (rw [HY.out])
            | ((with_reducible refine wpList_load_mid ?_ 36 (.tmp 3) ?_ w.heap.size 0 ?_ (enC { e with hk := wrap64 U }) _ (enAt H3.out) Tryd.underlying36 ?_ (sizeEn _) ?_); rfl; rfl; rfl; rfl)
            | ((with_reducible refine wpList_store_mid ?_ 36 (.tmp 6) (.tmp 125) ?_ (w.heap.size + 1) 0 (enC { e with hk := wrap64 U }).toArray ?_ ?_ (thereEn H4.out) (sizeEnA _) (oneEn _) ?_); rfl; rfl; rfl; rfl)
            | (rw [HV.out]))
          refine en_ret2 (n := w.heap.size + 1) (e := { e with hk := wrap64 U }) rfl rfl rfl H5.out ?_
          exact ⟨ret_en2 (by rw [HE.out]), HBV.out⟩
        have d5 : ((c.toNat : Int) == 104) = false := by simp; omega
        by_cases k6 : c.toNat = 112
        · have d6 : ((c.toNat : Int) == 112) = true := by simp; omega
          obtain ⟨Y, V, HY, HV, H3, H4, H5, HBV⟩ := two_copy (e' := { e with pg := wrap64 U }) (j := 7) (v := .int .i64 (wrap64 U)) H1.out H2.out HB.out rfl
          have c3 := H1.out.cell (j := 7) rfl
          have f3 := H1.out.frozen 7
          have HE : Hid (setE e c l = ({ e with pg := wrap64 U }, true)) := by show _ = _; rw [HPE.out]; unfold putE; simp [k6]
          go_wp2_with (first
            | (rw [HY.out])
            | ((with_reducible refine wpList_load_mid ?_ 36 (.tmp 3) ?_ w.heap.size 0 ?_ (enC { e with pg := wrap64 U }) _ (enAt H3.out) Tryd.underlying36 ?_ (sizeEn _) ?_); rfl; rfl; rfl; rfl)
            | ((with_reducible refine wpList_store_mid ?_ 36 (.tmp 6) (.tmp 125) ?_ (w.heap.size + 1) 0 (enC { e with pg := wrap64 U }).toArray ?_ ?_ (thereEn H4.out) (sizeEnA _) (oneEn _) ?_); rfl; rfl; rfl; rfl)
            | (rw [HV.out]))
          refine en_ret2 (n := w.heap.size + 1) (e := { e with pg := wrap64 U }) rfl rfl rfl H5.out ?_
          exact ⟨ret_en2 (by rw [HE.out]), HBV.out⟩
        have d6 : ((c.toNat : Int) == 112) = false := by simp; omega
        by_cases k7 : c.toNat = 118
        · have d7 : ((c.toNat : Int) == 118) = true := by simp; omega
          obtain ⟨Y, V, HY, HV, H3, H4, H5, HBV⟩ := two_copy (e' := { e with ve := wrap64 U }) (j := 8) (v := .int .i64 (wrap64 U)) H1.out H2.out HB.out rfl
          have c3 := H1.out.cell (j := 8) rfl
          have f3 := H1.out.frozen 8
          have HE : Hid (setE e c l = ({ e with ve := wrap64 U }, true)) := by show _ = _; rw [HPE.out]; unfold putE; simp [k7]
          go_wp2_with (first
            | (rw [HY.out])
            | ((with_reducible refine wpList_load_mid ?_ 36 (.tmp 3) ?_ w.heap.size 0 ?_ (enC { e with ve := wrap64 U }) _ (enAt H3.out) Tryd.underlying36 ?_ (sizeEn _) ?_); rfl; rfl; rfl; rfl)
            | ((with_reducible refine wpList_store_mid ?_ 36 (.tmp 6) (.tmp 125) ?_ (w.heap.size + 1) 0 (enC { e with ve := wrap64 U }).toArray ?_ ?_ (thereEn H4.out) (sizeEnA _) (oneEn _) ?_); rfl; rfl; rfl; rfl)
            | (rw [HV.out]))
          refine en_ret2 (n := w.heap.size + 1) (e := { e with ve := wrap64 U }) rfl rfl rfl H5.out ?_
          exact ⟨ret_en2 (by rw [HE.out]), HBV.out⟩
        have d7 : ((c.toNat : Int) == 118) = false := by simp; omega
        by_cases k8 : c.toNat = 97
        · have d8 : ((c.toNat : Int) == 97) = true := by simp; omega
          obtain ⟨Y, V, HY, HV, H3, H4, H5, HBV⟩ := two_copy (e' := { e with pc := wrap64 U }) (j := 9) (v := .int .i64 (wrap64 U)) H1.out H2.out HB.out rfl
          have c3 := H1.out.cell (j := 9) rfl
          have f3 := H1.out.frozen 9
          have HE : Hid (setE e c l = ({ e with pc := wrap64 U }, true)) := by show _ = _; rw [HPE.out]; unfold putE; simp [k8]
          go_wp2_with (first
            | (rw [HY.out])
            | ((with_reducible refine wpList_load_mid ?_ 36 (.tmp 3) ?_ w.heap.size 0 ?_ (enC { e with pc := wrap64 U }) _ (enAt H3.out) Tryd.underlying36 ?_ (sizeEn _) ?_); rfl; rfl; rfl; rfl)
            | ((with_reducible refine wpList_store_mid ?_ 36 (.tmp 6) (.tmp 125) ?_ (w.heap.size + 1) 0 (enC { e with pc := wrap64 U }).toArray ?_ ?_ (thereEn H4.out) (sizeEnA _) (oneEn _) ?_); rfl; rfl; rfl; rfl)
            | (rw [HV.out]))
          refine en_ret2 (n := w.heap.size + 1) (e := { e with pc := wrap64 U }) rfl rfl rfl H5.out ?_
          exact ⟨ret_en2 (by rw [HE.out]), HBV.out⟩
        have d8 : ((c.toNat : Int) == 97) = false := by simp; omega
        by_cases k9 : c.toNat = 120
        · have d9 : ((c.toNat : Int) == 120) = true := by simp; omega
          obtain ⟨Y, V, HY, HV, H3, H4, H5, HBV⟩ := two_copy (e' := { e with xe := wrap64 U }) (j := 21) (v := .int .i64 (wrap64 U)) H1.out H2.out HB.out rfl
          have c3 := H1.out.cell (j := 21) rfl
          have f3 := H1.out.frozen 21
          have HE : Hid (setE e c l = ({ e with xe := wrap64 U }, true)) := by show _ = _; rw [HPE.out]; unfold putE; simp [k9]
          go_wp2_with (first
            | (rw [HY.out])
            | ((with_reducible refine wpList_load_mid ?_ 36 (.tmp 3) ?_ w.heap.size 0 ?_ (enC { e with xe := wrap64 U }) _ (enAt H3.out) Tryd.underlying36 ?_ (sizeEn _) ?_); rfl; rfl; rfl; rfl)
            | ((with_reducible refine wpList_store_mid ?_ 36 (.tmp 6) (.tmp 125) ?_ (w.heap.size + 1) 0 (enC { e with xe := wrap64 U }).toArray ?_ ?_ (thereEn H4.out) (sizeEnA _) (oneEn _) ?_); rfl; rfl; rfl; rfl)
            | (rw [HV.out]))
          refine en_ret2 (n := w.heap.size + 1) (e := { e with xe := wrap64 U }) rfl rfl rfl H5.out ?_
          exact ⟨ret_en2 (by rw [HE.out]), HBV.out⟩
        have d9 : ((c.toNat : Int) == 120) = false := by simp; omega
        by_cases k10 : c.toNat = 109
        · have d10 : ((c.toNat : Int) == 109) = true := by simp; omega
          obtain ⟨Y, V, HY, HV, H3, H4, H5, HBV⟩ := two_copy (e' := { e with mp := wrap64 U }) (j := 10) (v := .int .i64 (wrap64 U)) H1.out H2.out HB.out rfl
          have c3 := H1.out.cell (j := 10) rfl
          have f3 := H1.out.frozen 10
          have HE : Hid (setE e c l = ({ e with mp := wrap64 U }, true)) := by show _ = _; rw [HPE.out]; unfold putE; simp [k10]
          go_wp2_with (first
            | (rw [HY.out])
            | ((with_reducible refine wpList_load_mid ?_ 36 (.tmp 3) ?_ w.heap.size 0 ?_ (enC { e with mp := wrap64 U }) _ (enAt H3.out) Tryd.underlying36 ?_ (sizeEn _) ?_); rfl; rfl; rfl; rfl)
            | ((with_reducible refine wpList_store_mid ?_ 36 (.tmp 6) (.tmp 125) ?_ (w.heap.size + 1) 0 (enC { e with mp := wrap64 U }).toArray ?_ ?_ (thereEn H4.out) (sizeEnA _) (oneEn _) ?_); rfl; rfl; rfl; rfl)
            | (rw [HV.out]))
          refine en_ret2 (n := w.heap.size + 1) (e := { e with mp := wrap64 U }) rfl rfl rfl H5.out ?_
          exact ⟨ret_en2 (by rw [HE.out]), HBV.out⟩
        have d10 : ((c.toNat : Int) == 109) = false := by simp; omega
        by_cases k11 : c.toNat = 111
        · have d11 : ((c.toNat : Int) == 111) = true := by simp; omega
          obtain ⟨Y, V, HY, HV, H3, H4, H5, HBV⟩ := two_copy (e' := { e with op := wrap64 U }) (j := 11) (v := .int .i64 (wrap64 U)) H1.out H2.out HB.out rfl
          have c3 := H1.out.cell (j := 11) rfl
          have f3 := H1.out.frozen 11
          have HE : Hid (setE e c l = ({ e with op := wrap64 U }, true)) := by show _ = _; rw [HPE.out]; unfold putE; simp [k11]
          go_wp2_with (first
            | (rw [HY.out])
            | ((with_reducible refine wpList_load_mid ?_ 36 (.tmp 3) ?_ w.heap.size 0 ?_ (enC { e with op := wrap64 U }) _ (enAt H3.out) Tryd.underlying36 ?_ (sizeEn _) ?_); rfl; rfl; rfl; rfl)
            | ((with_reducible refine wpList_store_mid ?_ 36 (.tmp 6) (.tmp 125) ?_ (w.heap.size + 1) 0 (enC { e with op := wrap64 U }).toArray ?_ ?_ (thereEn H4.out) (sizeEnA _) (oneEn _) ?_); rfl; rfl; rfl; rfl)
            | (rw [HV.out]))
          refine en_ret2 (n := w.heap.size + 1) (e := { e with op := wrap64 U }) rfl rfl rfl H5.out ?_
          exact ⟨ret_en2 (by rw [HE.out]), HBV.out⟩
        have d11 : ((c.toNat : Int) == 111) = false := by simp; omega
        by_cases k12 : c.toNat = 121
        · have d12 : ((c.toNat : Int) == 121) = true := by simp; omega
          obtain ⟨Y, V, HY, HV, H3, H4, H5, HBV⟩ := two_copy (e' := { e with er := wrap64 U }) (j := 14) (v := .int .i64 (wrap64 U)) H1.out H2.out HB.out rfl
          have c3 := H1.out.cell (j := 14) rfl
          have f3 := H1.out.frozen 14
          have HE : Hid (setE e c l = ({ e with er := wrap64 U }, true)) := by show _ = _; rw [HPE.out]; unfold putE; simp [k12]
          go_wp2_with (first
            | (rw [HY.out])
            | ((with_reducible refine wpList_load_mid ?_ 36 (.tmp 3) ?_ w.heap.size 0 ?_ (enC { e with er := wrap64 U }) _ (enAt H3.out) Tryd.underlying36 ?_ (sizeEn _) ?_); rfl; rfl; rfl; rfl)
            | ((with_reducible refine wpList_store_mid ?_ 36 (.tmp 6) (.tmp 125) ?_ (w.heap.size + 1) 0 (enC { e with er := wrap64 U }).toArray ?_ ?_ (thereEn H4.out) (sizeEnA _) (oneEn _) ?_); rfl; rfl; rfl; rfl)
            | (rw [HV.out]))
          refine en_ret2 (n := w.heap.size + 1) (e := { e with er := wrap64 U }) rfl rfl rfl H5.out ?_
          exact ⟨ret_en2 (by rw [HE.out]), HBV.out⟩
        have d12 : ((c.toNat : Int) == 121) = false := by simp; omega
        by_cases k13 : c.toNat = 98
        · have d13 : ((c.toNat : Int) == 98) = true := by simp; omega
          obtain ⟨Y, V, HY, HV, H3, H4, H5, HBV⟩ := two_copy (e' := { e with fo := wrap64 U == 1 }) (j := 15) (v := .bool (wrap64 U == 1)) H1.out H2.out HB.out rfl
          have c3 := H1.out.cell (j := 15) rfl
          have f3 := H1.out.frozen 15
          have HE : Hid (setE e c l = ({ e with fo := wrap64 U == 1 }, true)) := by show _ = _; rw [HPE.out]; unfold putE; simp [k13]
          go_wp2_with (first
            | (rw [HY.out])
            | ((with_reducible refine wpList_load_mid ?_ 36 (.tmp 3) ?_ w.heap.size 0 ?_ (enC { e with fo := wrap64 U == 1 }) _ (enAt H3.out) Tryd.underlying36 ?_ (sizeEn _) ?_); rfl; rfl; rfl; rfl)
            | ((with_reducible refine wpList_store_mid ?_ 36 (.tmp 6) (.tmp 125) ?_ (w.heap.size + 1) 0 (enC { e with fo := wrap64 U == 1 }).toArray ?_ ?_ (thereEn H4.out) (sizeEnA _) (oneEn _) ?_); rfl; rfl; rfl; rfl)
            | (rw [HV.out]))
          refine en_ret2 (n := w.heap.size + 1) (e := { e with fo := wrap64 U == 1 }) rfl rfl rfl H5.out ?_
          exact ⟨ret_en2 (by rw [HE.out]), HBV.out⟩
        have d13 : ((c.toNat : Int) == 98) = false := by simp; omega
        have HE : Hid (setE e c l = (brE e c.toNat U, true)) := by
          show _ = _
          rw [HPE.out]
          unfold putE
          rw [if_neg k0, if_neg k1, if_neg k2, if_neg k3, if_neg k4, if_neg k5, if_neg k6, if_neg k7, if_neg k8, if_neg k9, if_neg k10, if_neg k11, if_neg k12, if_neg k13]
        clear k0 k1 k2 k3 k4 k5 k6 k7 k8 k9 k10 k11 k12 k13
        obtain ⟨ev, HEV⟩ : ∃ ev, Hid (brE e c.toNat U = ev) := ⟨_, rfl⟩
        have HBR := keepG (broad26 e c.toNat U Z hcb)
        rw [HEV.out] at HBR HE
        go_wp2_with (first
          | ((with_reducible refine wpList_load_mid ?_ 36 (.tmp 3) ?_ w.heap.size 0 ?_ (enC e) _ (enAt H1.out) Tryd.underlying36 ?_ (sizeEn _) ?_); rfl; rfl; rfl; rfl)
          | (go_at_call 64; go_must (refine HBR.out.mono ?_); rintro e1 w1 ⟨rfl, hb1⟩; go_must (have H6 := keepG (H2.out.below hb1 H2.out.lt); have HB6 := keepG (HB.out.trans (hb1.mono HB.out.size)); obtain ⟨V, HV, H7, HBV⟩ : ∃ V, Hid (w1.setCells (w.heap.size + 1) 0 (enC ev).toArray.toList = V) ∧ Hid (Hp V (w.heap.size + 1) 36 (enC ev)) ∧ Hid (Below w.heap.size w V) := ⟨_, rfl, setsEn ev H6.out, HB6.out.trans (grown_to_below (grown_sets (w.heap.size + 1) (enC ev).toArray.toList _ 0) (by omega) HB6.out.size)⟩; clear hb1))
          | ((with_reducible refine wpList_store_mid ?_ 36 (.tmp 6) (.tmp 63) ?_ (w.heap.size + 1) 0 (enC ev).toArray ?_ ?_ (thereEn H6.out) (sizeEnA _) (oneEn _) ?_); rfl; rfl; rfl; rfl)
          | (rw [HV.out]))
        refine en_ret2 (n := w.heap.size + 1) (e := ev) rfl rfl rfl H7.out ?_
        exact ⟨ret_en2 (by rw [HE.out]), HBV.out⟩
end Go.Proofs.YtbfbfbbpajaclaaDoor
