
/-
  RingPlays, walked. Condition: none but the arguments' reading.
-/
import Derived.Test.YthcdfknadcdfkaaTk
import Derived.Test.YthcdfknadcdfkaaW16Pl
import Derived.Test.YthcdfknadcdfkaaW16Of
namespace Go.Proofs.Ythcdfknadcdfkaa
open Go.RowKit
set_option linter.unusedVariables false
set_option linter.unusedSimpArgs false
set_option maxRecDepth 100000

theorem Rg.acc_cases {r : Rg} (a b n : Int) : (∃ E r', E ≠ 0 ∧ r.accept a b n = (0, E, r')) ∨ ∃ r', r.accept a b n = (n, 0, r') := by
  unfold Rg.accept
  split
  · exact .inl ⟨43, _, by decide, rfl⟩
  · split
    · exact .inl ⟨40, _, by decide, rfl⟩
    · exact .inr ⟨_, rfl⟩
theorem Ob.more {r : Rg} {l l' : Int} {n : Nat} (h : Ob r l n) (h0 : 0 ≤ l') (h1 : l' ≤ (n + 1 : Nat)) : Ob r l' (n + 1) := ⟨h.ok, Nat.le_succ_of_le h.all, Nat.le_succ_of_le h.ref, h0, h1⟩
theorem Ob.le1 {r : Rg} {l : Int} {n : Nat} (h : Ob r l n) : Ob r l (n + 1) := h.more h.l0 (by have := h.ln; omega)
theorem Ob.take1 {r r' : Rg} {l : Int} {n : Nat} (h : Ob r l n) {q : Qe} {o : Bool} (hq : r.take = (q, o, r')) : Ob r' l (n + 1) := by
  have hk := h.ok.take
  rw [hq] at hk
  have e : r'.all = r.all ∧ r'.refused = r.refused := by
    unfold Rg.take at hq
    split at hq
    · injection hq with _ hq
      injection hq with _ hq
      rw [← hq]
      exact ⟨rfl, rfl⟩
    · injection hq with _ hq
      injection hq with _ hq
      rw [← hq]
      exact ⟨rfl, rfl⟩
  exact ⟨hk, by rw [e.1]; exact Nat.le_succ_of_le h.all, by rw [e.2]; exact Nat.le_succ_of_le h.ref, h.l0, by have := h.ln; omega⟩
theorem Ob.shut1 {r : Rg} {l : Int} {n : Nat} (h : Ob r l n) : Ob r.shut.2 l (n + 1) := ⟨h.ok.shut, Nat.le_succ_of_le h.all, Nat.le_succ_of_le h.ref, h.l0, by have := h.ln; omega⟩
theorem bel_more {w w1 w2 : World} (h : Below w.heap.size w w1) (g : Below w1.heap.size w1 w2) : Below w.heap.size w w2 := h.trans (g.mono h.size)
theorem ringPlays_nn (n1 : Int) (p : n1 < 1 ∨ 16 < n1) (n2 : Int) (q : n2 < 1 ∨ 16 < n2) (sv : Value) (w : World) :
    Calls Try.prog 3 #[.int .i64 n1, .int .i64 n2, sv] w fun e w' => e = .returned (.bool true) ∧ Below w.heap.size w w' := by
  have t1 : True := trivial
  have t2 : True := trivial
  have t3 : True := trivial
  go_enter Try.func3, Try.ntmps3
  go_wp2_with (first
    | (go_at_call 7; go_must (refine (awake16_any w).mono ?_); rintro e w1 ⟨rfl, hb1⟩)
    | (go_at_call 8; have hq := t1; clear hq; go_must (refine (lrnew_no n1 p _ _).mono ?_); rintro e w2 ⟨rfl, rfl⟩; clear t1)
    | (go_at_call 8; have hq := t2; clear hq; go_must (refine (lrnew_no n2 q _ _).mono ?_); rintro e w3 ⟨rfl, rfl⟩; clear t2)
    | (go_at_call 9; have hq := t3; clear hq; go_must (refine (kNew_no n1 p _).mono ?_); rintro e w4 ⟨rfl, rfl⟩; clear t3)
    | (go_at_call 9; go_must (refine (kNew_no n2 q _).mono ?_); rintro e w5 ⟨rfl, rfl⟩)
    | (go_at_call 8; go_must (refine (lrnew_nil _).mono ?_); rintro e w6 ⟨rfl, rfl⟩))
  go_ret
  exact ⟨rfl, (hb1.trans ((below_allocG _ _).mono hb1.size))⟩
theorem ringPlays_yn (n1 : Nat) (p1 : 1 ≤ n1) (p2 : n1 ≤ 16) (n2 : Int) (q : n2 < 1 ∨ 16 < n2) (sv : Value) (w : World) :
    Calls Try.prog 3 #[.int .i64 n1, .int .i64 n2, sv] w fun e w' => e = .returned (.bool true) ∧ Below w.heap.size w w' := by
  have t1 : True := trivial
  have t2 : True := trivial
  have t3 : True := trivial
  go_enter Try.func3, Try.ntmps3
  go_wp2_with (first
    | (go_at_call 7; go_must (refine (awake16_any w).mono ?_); rintro e w1 ⟨rfl, hb1⟩)
    | (go_at_call 8; have hq := t1; clear hq; go_must (refine (lonew_ok n1 p1 p2 _).mono ?_); rintro e w2 ⟨ba, Fa, rfl, _, _, hb2⟩; clear t1)
    | (go_at_call 8; have hq := t2; clear hq; go_must (refine (lrnew_no n2 q _ _).mono ?_); rintro e w3 ⟨rfl, rfl⟩; clear t2)
    | (go_at_call 9; have hq := t3; clear hq; go_must (refine (konew_ok n1 p1 p2 _).mono ?_); rintro e w4 ⟨bx, Fx, rfl, _, _, hb4⟩; clear t3)
    | (go_at_call 9; go_must (refine (kNew_no n2 q _).mono ?_); rintro e w5 ⟨rfl, rfl⟩)
    | (go_at_call 8; go_must (refine (lrnew_nil _).mono ?_); rintro e w6 ⟨rfl, rfl⟩))
  go_ret
  exact ⟨rfl, (bel_more (bel_more (hb1.trans ((below_allocG _ _).mono hb1.size)) hb2) hb4)⟩
theorem ringPlays_ny (n1 : Int) (p : n1 < 1 ∨ 16 < n1) (n2 : Nat) (q1 : 1 ≤ n2) (q2 : n2 ≤ 16) (sv : Value) (w : World) :
    Calls Try.prog 3 #[.int .i64 n1, .int .i64 n2, sv] w fun e w' => e = .returned (.bool true) ∧ Below w.heap.size w w' := by
  have t1 : True := trivial
  have t2 : True := trivial
  have t3 : True := trivial
  go_enter Try.func3, Try.ntmps3
  go_wp2_with (first
    | (go_at_call 7; go_must (refine (awake16_any w).mono ?_); rintro e w1 ⟨rfl, hb1⟩)
    | (go_at_call 8; have hq := t1; clear hq; go_must (refine (lrnew_no n1 p _ _).mono ?_); rintro e w2 ⟨rfl, rfl⟩; clear t1)
    | (go_at_call 8; have hq := t2; clear hq; go_must (refine (lonew_ok n2 q1 q2 _).mono ?_); rintro e w3 ⟨bb, Fb, rfl, _, _, hb3⟩; clear t2)
    | (go_at_call 9; have hq := t3; clear hq; go_must (refine (kNew_no n1 p _).mono ?_); rintro e w4 ⟨rfl, rfl⟩; clear t3)
    | (go_at_call 9; go_must (refine (konew_ok n2 q1 q2 _).mono ?_); rintro e w5 ⟨by5, Fy, rfl, _, _, hb5⟩)
    | (go_at_call 8; go_must (refine (lrnew_nil _).mono ?_); rintro e w6 ⟨rfl, rfl⟩))
  go_ret
  exact ⟨rfl, (bel_more (bel_more (hb1.trans ((below_allocG _ _).mono hb1.size)) hb3) hb5)⟩
set_option maxHeartbeats 32000000 in
theorem ringPlays_ok (n1 n2 : Nat) (p1 : 1 ≤ n1) (p2 : n1 ≤ 16) (q1 : 1 ≤ n2) (q2 : n2 ≤ 16) (sv : Value) (is : List Oc) (w : World) (hs : SeesG ocC 4 Oc.nil w sv is) (hlen : is.length * 32 ≤ 140737488351232) :
    Calls Try.prog 3 #[.int .i64 n1, .int .i64 n2, sv] w fun e w' => e = .returned (.bool true) ∧ Below w.heap.size w w' := by
  have HSS : Hid (∀ wr, Below w.heap.size w wr → SeesG ocC 4 Oc.nil wr sv is) := fun wr hb => hs.below hb (Nat.le_refl _)
  obtain ⟨a, c, rfl, hc, hm, _, _⟩ := hs
  have hm' : c ≤ 9223372036854775807 := by unfold maxLen at hm; omega
  have HO1 : Hid (Ob (Rg.new n1) 0 0) := ⟨Rg.Ok.new p1 p2, Nat.le_refl _, Nat.le_refl _, Int.le_refl _, Int.le_refl _⟩
  have HO2 : Hid (Ob (Rg.new n2) 0 0) := ⟨Rg.Ok.new q1 q2, Nat.le_refl _, Nat.le_refl _, Int.le_refl _, Int.le_refl _⟩
  have t1 : True := trivial
  have t2 : True := trivial
  have t3 : True := trivial
  go_enter Try.func3, Try.ntmps3
  go_wp2_with (first
    | (go_at_call 7; go_must (refine (awake16_any w).mono ?_); rintro e w1 ⟨rfl, hb1⟩; go_must (obtain ⟨X1, HX1, HN1, hbX1⟩ : ∃ X, Hid (w1.alloc (.cells #[.int .i64 0] 26) = X) ∧ Hid (Nm X w1.heap.size 0) ∧ Below w.heap.size w X := ⟨_, rfl, Hp.new w1 [.int .i64 0] _, bel_more hb1 (below_allocG _ _)⟩))
    | (go_at_call 8; have hq := t1; clear hq; rw [HX1.out]; go_must (refine (lonew_ok n1 p1 p2 _).mono ?_); rintro e w2 ⟨ra, Fa, rfl, hLa, hSa, hb2⟩; go_must (have HLa := keepG hLa; have HSa := keepG hSa; clear t1 hLa hSa))
    | (go_at_call 8; have hq := t2; clear hq; go_must (refine (lonew_ok n2 q1 q2 _).mono ?_); rintro e w3 ⟨rb, Fb, rfl, hLb, hSb, hb3⟩; go_must (have HLb := keepG hLb; have HSb := keepG hSb; clear t2 hLb hSb))
    | (go_at_call 9; have hq := t3; clear hq; go_must (refine (konew_ok n1 p1 p2 _).mono ?_); rintro e w4 ⟨rx, Fx, rfl, hLx, hSx, hb4⟩; go_must (have HLx := keepG hLx; have HSx := keepG hSx; clear t3 hLx hSx))
    | (go_at_call 9; go_must (refine (konew_ok n2 q1 q2 _).mono ?_); rintro e w5 ⟨ry, Fy, rfl, hLy, hSy, hb5⟩; go_must (have HT5 := keepG (PlE.new hbX1 HN1.out hb1.size HLa.out HSa.out hb2 HLb.out HSb.out hb3 HLx.out HSx.out hb4 hLy hSy hb5); clear hLy hSy))
    | (go_at_call 8; go_must (refine (lrnew_nil _).mono ?_); rintro e w6 ⟨rfl, rfl⟩))
  obtain ⟨R, HRR⟩ : ∃ R, Hid (w5.heap.size = R) := ⟨_, rfl⟩
  have HR1 : Hid (Hp ((w5.alloc (.cells #[.pointer (some ⟨ra, 0, none⟩), .pointer (some ⟨rb, 0, none⟩)] 27)).alloc (.cells #[.pointer (some ⟨rx, 0, none⟩), .pointer (some ⟨ry, 0, none⟩)] 31)) R 27 [.pointer (some ⟨ra, 0, none⟩), .pointer (some ⟨rb, 0, none⟩)]) := by rw [← HRR.out]; exact (Hp.new w5 [.pointer (some ⟨ra, 0, none⟩), .pointer (some ⟨rb, 0, none⟩)] _).alloc _
  have HR2 : Hid (Hp ((w5.alloc (.cells #[.pointer (some ⟨ra, 0, none⟩), .pointer (some ⟨rb, 0, none⟩)] 27)).alloc (.cells #[.pointer (some ⟨rx, 0, none⟩), .pointer (some ⟨ry, 0, none⟩)] 31)) (R + 1) 31 [.pointer (some ⟨rx, 0, none⟩), .pointer (some ⟨ry, 0, none⟩)]) := by
    have h := Hp.new (w5.alloc (.cells #[.pointer (some ⟨ra, 0, none⟩), .pointer (some ⟨rb, 0, none⟩)] 27)) [.pointer (some ⟨rx, 0, none⟩), .pointer (some ⟨ry, 0, none⟩)] 31
    have e : (w5.alloc (.cells #[.pointer (some ⟨ra, 0, none⟩), .pointer (some ⟨rb, 0, none⟩)] 27)).heap.size = R + 1 := by rw [← HRR.out]; simp
    rw [e] at h
    exact h
  have HT6 := keepG ((HT5.out.below (below_allocG _ (.cells #[.pointer (some ⟨ra, 0, none⟩), .pointer (some ⟨rb, 0, none⟩)] 27))).below (below_allocG _ (.cells #[.pointer (some ⟨rx, 0, none⟩), .pointer (some ⟨ry, 0, none⟩)] 31)))
  rw [HRR.out]
  obtain ⟨nb, HNB⟩ : ∃ nb, Hid (w1.heap.size = nb) := ⟨_, rfl⟩
  rw [HNB.out] at HT6
  go_loopw [20, 21] (fun lv i wr => ∃ j : Nat, j ≤ is.length ∧ i = .int .i64 j ∧ ∃ r s last, lv = .int .i64 last ∧ Hid (PlE w wr ra rb rx ry nb r s r s last) ∧ Hid (Hp wr R 27 [.pointer (some ⟨ra, 0, none⟩), .pointer (some ⟨rb, 0, none⟩)]) ∧ Hid (Hp wr (R + 1) 31 [.pointer (some ⟨rx, 0, none⟩), .pointer (some ⟨ry, 0, none⟩)]) ∧ Hid (Ob r last j) ∧ Hid (Ob s last j)) (fun _ i _ => is.length - (intOf i).toNat)
  case atStart => exact ⟨0, by omega, rfl, _, _, 0, rfl, HT6, HR1, HR2, HO1, HO2⟩
  case round =>
    obtain ⟨j, hj, rfl, r, s, last, rfl, HM, HRA, HRX, HBr, HBs⟩ := hrel
    rename World => wr
    by_cases hlt : j < is.length
    · have hltI : (j : Int) < is.length := by omega
      obtain ⟨a', c', ev, _, _, _, hcell⟩ := HSS.out _ HM.out.be
      simp only [Value.slice.injEq, true_and] at ev
      obtain ⟨rfl, rfl⟩ := ev
      obtain ⟨g, off, rfl, hg, hat⟩ := hcell (fun e => by rw [e] at hlt; simp at hlt)
      have d0 := hat j hlt 0 (by omega)
      have d1 := hat j hlt 1 (by omega)
      have d2 := hat j hlt 2 (by omega)
      have d3 := hat j hlt 3 (by omega)
      obtain ⟨x, HX0⟩ : ∃ x, Hid (is.getD j Oc.nil = x) := ⟨_, rfl⟩
      rw [HX0.out] at d0 d1 d2 d3
      simp only [List.getElem?_cons_zero, List.getElem?_cons_succ, Nat.add_zero] at d0 d1 d2 d3
      clear hat hcell
      obtain ⟨X, HX, hbX, hpX⟩ := op_box wr x
      have HMX := keepG ((HM.out.below hbX).drewN 1)
      have HRAX := keepG (show Hp X.drew R 27 _ from HRA.out.below (below_drG hbX) HRA.out.lt)
      have HRXX := keepG (show Hp X.drew (R + 1) 31 _ from HRX.out.below (below_drG hbX) HRX.out.lt)
      have HpX := keepG (show Hp X.drew wr.heap.size 40 (ocC x) from hpX.out)
      obtain ⟨xk, xo, xa, xb⟩ := x
      simp only at d0 d1 d2 d3 HX hpX HpX
      have o1 := hpX.out.cell (j := 1) rfl
      have o1' := o1
      rw [← HX.out] at o1'
      have a0 := HRAX.out.cell (j := 0) rfl
      have a1 := HRAX.out.cell (j := 1) rfl
      have x0 := HRXX.out.cell (j := 0) rfl
      have x1 := HRXX.out.cell (j := 1) rfl
      have k0 := HpX.out.cell (j := 0) rfl
      have k2 := HpX.out.cell (j := 2) rfl
      have k3 := HpX.out.cell (j := 3) rfl
      have hl0 := HBr.out.l0
      have hln := HBr.out.ln
      have hlw : IntKind.i64.wrap (last + 1) = last + 1 := by rw [IntKind.wrap_i64]; omega
      have hpos : 0 < last + 1 := by omega
      by_cases hpar : xo.tmod 2 = 0
      · have HMS := HMX
        go_wp2_with (rw [HX.out])
        refine wp_region_held_drew (S := fun w' => w'.cell? ⟨R, 0, none⟩ = some (.pointer (some ⟨ra, 0, none⟩)) ∧ w'.cell? ⟨R + 1, 0, none⟩ = some (.pointer (some ⟨rx, 0, none⟩))) (by kernel_rfl) ⟨a0, x0⟩ (fun hHeld => ?_)
        refine tkGo [0, 1, 2, 3, 4, 5, 6, 7, 8, 9] ?_
        repeat (refine tkOne (v := ?_) rfl (by kernel_rfl) (by kernel_rfl) (by kernel_rfl) (fun _ _ _ h => h) (by assumption) (by rfl) ?_ ?_; rotate_left; (intro wy hSw; (try dsimp only at hSw); go_simp; (first | done | with_reducible rfl)); try simp only [Act.put, List.getElem_toArray, List.getElem_cons_zero, List.getElem_cons_succ, List.setIfInBounds_toArray, List.set_cons_zero, List.set_cons_succ])
        refine tkEnd ?_
        refine wpAnyH_done (by kernel_rfl) ?_ _
        clear hHeld
        by_cases hk0 : xk = 0
        · subst hk0
          rcases Rg.acc_cases (r := r) xa xb (last + 1) with ⟨E, r2, hE, hacc⟩ | ⟨r2, hacc⟩
          · have HQa := keepG hacc
            have HB2 : Hid (Ob r2 last (j + 1)) := by
              have := HBr.out.step xa xb
              rw [hacc] at this
              simp only [lastA] at this
              first | exact this | (rw [if_neg hE] at this; exact this) | (rw [if_pos rfl] at this; exact this)
            have HBo : Hid (Ob s last (j + 1)) := HBs.out.more (by omega) (by omega)
            have HLa : Hid ((if (E : Int) = 0 then last + 1 else last) = last) := if_neg hE
            clear hacc hE
            obtain ⟨c1, c2, c3, c4, c5, HCC⟩ : ∃ a b c d e, Hid (r2.counts = (a, b, c, d, e)) := ⟨_, _, _, _, _, rfl⟩
            go_wp2_with (first
              | (go_at_call 10; go_must (refine (HMS.out.acceptL xa xb HBr.out.ok (by omega) (by omega) (by have := HBr.out.ref; omega) HQa HLa).mono ?_); rintro e w7 ⟨rfl, ht7, hot7⟩; go_must (have HM7 := keepG ht7; have HRA7 := keepG (hot7 _ _ _ (by decide) (by decide) (by decide) (by decide) HRAX.out); have HRX7 := keepG (hot7 _ _ _ (by decide) (by decide) (by decide) (by decide) HRXX.out); have Hp7 := keepG (hot7 _ _ _ (by decide) (by decide) (by decide) (by decide) HpX.out); have e2 := Hp7.out.cell (j := 2) rfl; have e3 := Hp7.out.cell (j := 3) rfl; clear ht7 hot7))
              | (go_at_call 11; go_must (refine (HM7.out.acceptR xa xb (last + 1) HBr.out.ok (by have := HBr.out.all; omega) (by have := HBr.out.ref; omega) HQa).mono ?_); rintro e w8 ⟨rfl, ht8, hot8⟩; go_must (have HM8 := keepG ht8; have HRAz := keepG (hot8 _ _ _ (by decide) (by decide) (by decide) (by decide) HRA7.out); have HRXz := keepG (hot8 _ _ _ (by decide) (by decide) (by decide) (by decide) HRX7.out); clear ht8 hot8))
              | (go_at_call 19; go_must (refine (HM8.out.countsL HB2.out.ok (by have := HB2.out.all; omega) HCC).mono ?_); rintro e wy ⟨rfl, hby⟩; go_must (have HMy := keepG (HM8.out.below hby); have HRAy := keepG (HRAz.out.below hby HRAz.out.lt); have HRXy := keepG (HRXz.out.below hby HRXz.out.lt)))
              | (go_at_call 20; go_must (refine (HMy.out.countsR HB2.out.ok HCC).mono ?_); rintro e wz ⟨rfl, hbz⟩; go_must (have HMz := keepG (HMy.out.below hbz); have HRAe := keepG (HRAy.out.below hbz HRAy.out.lt); have HRXe := keepG (HRXy.out.below hbz HRXy.out.lt))))
            first
              | (go_roundw
                 case rel => exact ⟨j + 1, by omega, by go_num, r2, s, last, rfl, HMz, HRAe, HRXe, HB2, HBo⟩
                 case measure => simp [intOf]; omega)
              | exact ⟨⟨j + 1, by omega, by go_num, r2, s, last, rfl, HMz, HRAe, HRXe, HB2, HBo⟩, by simp [intOf]; omega⟩
    
          · have HQa := keepG hacc
            have HB2 : Hid (Ob r2 (last + 1) (j + 1)) := by
              have := HBr.out.step xa xb
              rw [hacc] at this
              simp only [lastA] at this
              first | exact this | (rw [if_neg hE] at this; exact this) | (rw [if_pos rfl] at this; exact this)
            have HBo : Hid (Ob s (last + 1) (j + 1)) := HBs.out.more (by omega) (by omega)
            have HLa : Hid ((if (0 : Int) = 0 then last + 1 else last) = (last + 1)) := rfl
            clear hacc
            obtain ⟨c1, c2, c3, c4, c5, HCC⟩ : ∃ a b c d e, Hid (r2.counts = (a, b, c, d, e)) := ⟨_, _, _, _, _, rfl⟩
            go_wp2_with (first
              | (go_at_call 10; go_must (refine (HMS.out.acceptL xa xb HBr.out.ok (by omega) (by omega) (by have := HBr.out.ref; omega) HQa HLa).mono ?_); rintro e w7 ⟨rfl, ht7, hot7⟩; go_must (have HM7 := keepG ht7; have HRA7 := keepG (hot7 _ _ _ (by decide) (by decide) (by decide) (by decide) HRAX.out); have HRX7 := keepG (hot7 _ _ _ (by decide) (by decide) (by decide) (by decide) HRXX.out); have Hp7 := keepG (hot7 _ _ _ (by decide) (by decide) (by decide) (by decide) HpX.out); have e2 := Hp7.out.cell (j := 2) rfl; have e3 := Hp7.out.cell (j := 3) rfl; clear ht7 hot7))
              | (go_at_call 11; go_must (refine (HM7.out.acceptR xa xb (last + 1) HBr.out.ok (by have := HBr.out.all; omega) (by have := HBr.out.ref; omega) HQa).mono ?_); rintro e w8 ⟨rfl, ht8, hot8⟩; go_must (have HM8 := keepG ht8; have HRAz := keepG (hot8 _ _ _ (by decide) (by decide) (by decide) (by decide) HRA7.out); have HRXz := keepG (hot8 _ _ _ (by decide) (by decide) (by decide) (by decide) HRX7.out); clear ht8 hot8))
              | (go_at_call 19; go_must (refine (HM8.out.countsL HB2.out.ok (by have := HB2.out.all; omega) HCC).mono ?_); rintro e wy ⟨rfl, hby⟩; go_must (have HMy := keepG (HM8.out.below hby); have HRAy := keepG (HRAz.out.below hby HRAz.out.lt); have HRXy := keepG (HRXz.out.below hby HRXz.out.lt)))
              | (go_at_call 20; go_must (refine (HMy.out.countsR HB2.out.ok HCC).mono ?_); rintro e wz ⟨rfl, hbz⟩; go_must (have HMz := keepG (HMy.out.below hbz); have HRAe := keepG (HRAy.out.below hbz HRAy.out.lt); have HRXe := keepG (HRXy.out.below hbz HRXy.out.lt))))
            first
              | (go_roundw
                 case rel => exact ⟨j + 1, by omega, by go_num, r2, s, (last + 1), rfl, HMz, HRAe, HRXe, HB2, HBo⟩
                 case measure => simp [intOf]; omega)
              | exact ⟨⟨j + 1, by omega, by go_num, r2, s, (last + 1), rfl, HMz, HRAe, HRXe, HB2, HBo⟩, by simp [intOf]; omega⟩
    
        · by_cases hk1 : xk = 1
          · subst hk1
            obtain ⟨q, ok, r2, HQt⟩ : ∃ q ok r2, Hid (r.take = (q, ok, r2)) := ⟨_, _, _, rfl⟩
            have HB2 := keepG (HBr.out.take1 HQt.out)
            have HBo := keepG HBs.out.le1
            obtain ⟨qn, qa, qb⟩ := q
            obtain ⟨c1, c2, c3, c4, c5, HCC⟩ : ∃ a b c d e, Hid (r2.counts = (a, b, c, d, e)) := ⟨_, _, _, _, _, rfl⟩
            go_wp2_with (first
              | (go_at_call 12; go_must (refine (HMS.out.takeL HBr.out.ok (by have := HBr.out.all; omega) HQt).mono ?_); rintro e w7 ⟨rfl, ht7, hot7⟩; go_must (obtain ⟨Z, HZ, hbZ, hpZ⟩ := que_box w7 ⟨qn, qa, qb⟩; have HM7 := keepG ht7; have hra := hot7 _ _ _ (by decide) (by decide) (by decide) (by decide) HRAX.out; have hrx := hot7 _ _ _ (by decide) (by decide) (by decide) (by decide) HRXX.out; have HRA7 := keepG (hra.below hbZ hra.lt); have HRX7 := keepG (hrx.below hbZ hrx.lt); try simp only at HZ hpZ; clear ht7 hot7 hra hrx))
              | (go_at_call 13; rw [HZ.out]; go_must (refine (HM7.out.takeR hbZ hpZ.out (Nat.le_refl _) HBr.out.ok (by have := HBr.out.all; omega) HQt).mono ?_); rintro e w8 ⟨rfl, ht8, hot8, hp8⟩; go_must (obtain ⟨Y, HY, hbY, hpY⟩ := que_box w8 ⟨qn, qa, qb⟩; have HM8 := keepG (ht8.below hbY); have hra := hot8 _ _ _ (by decide) (by decide) (by decide) (by decide) HRA7.out; have hrx := hot8 _ _ _ (by decide) (by decide) (by decide) (by decide) HRX7.out; have HRAz := keepG (hra.below hbY hra.lt); have HRXz := keepG (hrx.below hbY hrx.lt); have hpz := hp8.below hbY hp8.lt; have z0 := hpz.cell (j := 0) rfl; have z1 := hpz.cell (j := 1) rfl; have z2 := hpz.cell (j := 2) rfl; have y0 := hpY.out.cell (j := 0) rfl; have y1 := hpY.out.cell (j := 1) rfl; have y2 := hpY.out.cell (j := 2) rfl; rw [← HY.out] at z0 z1 z2 y0 y1 y2; rw [← HY.out] at HM8 HRAz HRXz; clear ht8 hot8 hra hrx hp8 hpz))
              | (go_at_call 19; go_must (refine (HM8.out.countsL HB2.out.ok (by have := HB2.out.all; omega) HCC).mono ?_); rintro e wy ⟨rfl, hby⟩; go_must (have HMy := keepG (HM8.out.below hby); have HRAy := keepG (HRAz.out.below hby HRAz.out.lt); have HRXy := keepG (HRXz.out.below hby HRXz.out.lt)))
              | (go_at_call 20; go_must (refine (HMy.out.countsR HB2.out.ok HCC).mono ?_); rintro e wz ⟨rfl, hbz⟩; go_must (have HMz := keepG (HMy.out.below hbz); have HRAe := keepG (HRAy.out.below hbz HRAy.out.lt); have HRXe := keepG (HRXy.out.below hbz HRXy.out.lt))))
            first
              | (go_roundw
                 case rel => exact ⟨j + 1, by omega, by go_num, r2, s, last, rfl, HMz, HRAe, HRXe, HB2, HBo⟩
                 case measure => simp [intOf]; omega)
              | exact ⟨⟨j + 1, by omega, by go_num, r2, s, last, rfl, HMz, HRAe, HRXe, HB2, HBo⟩, by simp [intOf]; omega⟩
          · by_cases hk2 : xk = 2
            · subst hk2
              obtain ⟨A, HA⟩ : ∃ A, Hid (r.waits = A) := ⟨_, rfl⟩
              obtain ⟨r2, HR2'⟩ : ∃ r2, Hid (r.shut.2 = r2) := ⟨_, rfl⟩
              have HB2 : Hid (Ob r2 last (j + 1)) := by rw [← HR2'.out]; exact HBr.out.shut1
              have HBo := keepG HBs.out.le1
              obtain ⟨c1, c2, c3, c4, c5, HCC⟩ : ∃ a b c d e, Hid (r2.counts = (a, b, c, d, e)) := ⟨_, _, _, _, _, rfl⟩
              go_wp2_with (first
                | (go_at_call 15; go_must (refine (HMS.out.shutL HBr.out.ok (by have := HBr.out.all; omega) HA).mono ?_); rintro e w7 ⟨v7, rfl, hv7, ht7, hot7⟩; go_must (rw [HR2'.out] at ht7; have HM7 := keepG ht7; have HV7 := keepG hv7; have HRA7 := keepG (hot7 _ _ _ (by decide) (by decide) (by decide) (by decide) HRAX.out); have HRX7 := keepG (hot7 _ _ _ (by decide) (by decide) (by decide) (by decide) HRXX.out); clear ht7 hot7 hv7))
                | (go_at_call 16; go_must (refine (HM7.out.shutR HBr.out.ok HA HV7.out).mono ?_); rintro e w8 ⟨v8, rfl, hv8, hv9, ht8, hot8⟩; go_must (rw [HR2'.out] at ht8; have HM8 := keepG ht8; have HV8 := keepG hv8; have HV9 := keepG hv9; have HRA8 := keepG (hot8 _ _ _ (by decide) (by decide) (by decide) (by decide) HRA7.out); have HRX8 := keepG (hot8 _ _ _ (by decide) (by decide) (by decide) (by decide) HRX7.out); clear ht8 hot8 hv8 hv9))
                | (go_at_call 14; go_must (refine (wqueuedB HV9.out HV8.out).mono ?_); rintro e w9 ⟨rfl, hb9⟩; go_must (have HM9 := keepG (HM8.out.below hb9); have HRAz := keepG (HRA8.out.below hb9 HRA8.out.lt); have HRXz := keepG (HRX8.out.below hb9 HRX8.out.lt)))
                | (go_at_call 19; go_must (refine (HM9.out.countsL HB2.out.ok (by have := HB2.out.all; omega) HCC).mono ?_); rintro e wy ⟨rfl, hby⟩; go_must (have HMy := keepG (HM9.out.below hby); have HRAy := keepG (HRAz.out.below hby HRAz.out.lt); have HRXy := keepG (HRXz.out.below hby HRXz.out.lt)))
                | (go_at_call 20; go_must (refine (HMy.out.countsR HB2.out.ok HCC).mono ?_); rintro e wz ⟨rfl, hbz⟩; go_must (have HMz := keepG (HMy.out.below hbz); have HRAe := keepG (HRAy.out.below hbz HRAy.out.lt); have HRXe := keepG (HRXy.out.below hbz HRXy.out.lt))))
              first
                | (go_roundw
                   case rel => exact ⟨j + 1, by omega, by go_num, r2, s, last, rfl, HMz, HRAe, HRXe, HB2, HBo⟩
                   case measure => simp [intOf]; omega)
                | exact ⟨⟨j + 1, by omega, by go_num, r2, s, last, rfl, HMz, HRAe, HRXe, HB2, HBo⟩, by simp [intOf]; omega⟩
            · by_cases hk3 : xk = 3
              · subst hk3
                obtain ⟨A, HA⟩ : ∃ A, Hid (r.waits = A) := ⟨_, rfl⟩
                obtain ⟨r2, HR2'⟩ : ∃ r2, Hid (r = r2) := ⟨_, rfl⟩
                have HB2 : Hid (Ob r2 last (j + 1)) := by rw [← HR2'.out]; exact HBr.out.le1
                have HBo := keepG HBs.out.le1
                obtain ⟨c1, c2, c3, c4, c5, HCC⟩ : ∃ a b c d e, Hid (r2.counts = (a, b, c, d, e)) := ⟨_, _, _, _, _, rfl⟩
                go_wp2_with (first
                  | (go_at_call 17; go_must (refine (HMS.out.waitsL HBr.out.ok HA).mono ?_); rintro e w7 ⟨v7, rfl, hv7, ht7, hot7⟩; go_must (have HM7 := keepG ht7; have HV7 := keepG hv7; have HRA7 := keepG (hot7 _ _ _ (by decide) (by decide) (by decide) (by decide) HRAX.out); have HRX7 := keepG (hot7 _ _ _ (by decide) (by decide) (by decide) (by decide) HRXX.out); clear ht7 hot7 hv7))
                  | (go_at_call 18; go_must (refine (HM7.out.waitsR HBr.out.ok HA).mono ?_); rintro e w8 ⟨v8, rfl, hv8, hb8⟩; go_must (have HM8 := keepG (HM7.out.below hb8); have HV8 := keepG hv8; have HV9 := keepG (HV7.out.below hb8 (Nat.le_refl _)); have HRA8 := keepG (HRA7.out.below hb8 HRA7.out.lt); have HRX8 := keepG (HRX7.out.below hb8 HRX7.out.lt); clear hv8))
                  | (go_at_call 14; go_must (refine (wqueuedB HV9.out HV8.out).mono ?_); rintro e w9 ⟨rfl, hb9⟩; go_must (have hm9 := HM8.out.below hb9; rw [HR2'.out] at hm9; have HM9 := keepG hm9; have HRAz := keepG (HRA8.out.below hb9 HRA8.out.lt); have HRXz := keepG (HRX8.out.below hb9 HRX8.out.lt); clear hm9))
                  | (go_at_call 19; go_must (refine (HM9.out.countsL HB2.out.ok (by have := HB2.out.all; omega) HCC).mono ?_); rintro e wy ⟨rfl, hby⟩; go_must (have HMy := keepG (HM9.out.below hby); have HRAy := keepG (HRAz.out.below hby HRAz.out.lt); have HRXy := keepG (HRXz.out.below hby HRXz.out.lt)))
                  | (go_at_call 20; go_must (refine (HMy.out.countsR HB2.out.ok HCC).mono ?_); rintro e wz ⟨rfl, hbz⟩; go_must (have HMz := keepG (HMy.out.below hbz); have HRAe := keepG (HRAy.out.below hbz HRAy.out.lt); have HRXe := keepG (HRXy.out.below hbz HRXy.out.lt))))
                first
                  | (go_roundw
                     case rel => exact ⟨j + 1, by omega, by go_num, r2, s, last, rfl, HMz, HRAe, HRXe, HB2, HBo⟩
                     case measure => simp [intOf]; omega)
                  | exact ⟨⟨j + 1, by omega, by go_num, r2, s, last, rfl, HMz, HRAe, HRXe, HB2, HBo⟩, by simp [intOf]; omega⟩
              · obtain ⟨r2, HR2'⟩ : ∃ r2, Hid (r = r2) := ⟨_, rfl⟩
                have HB2 : Hid (Ob r2 last (j + 1)) := by rw [← HR2'.out]; exact HBr.out.le1
                have HBo := keepG HBs.out.le1
                rw [HR2'.out] at HMS
                have HRAz := HRAX
                have HRXz := HRXX
                obtain ⟨c1, c2, c3, c4, c5, HCC⟩ : ∃ a b c d e, Hid (r2.counts = (a, b, c, d, e)) := ⟨_, _, _, _, _, rfl⟩
                go_wp2_with (first
                  | (go_at_call 19; go_must (refine (HMS.out.countsL HB2.out.ok (by have := HB2.out.all; omega) HCC).mono ?_); rintro e wy ⟨rfl, hby⟩; go_must (have HMy := keepG (HMS.out.below hby); have HRAy := keepG (HRAz.out.below hby HRAz.out.lt); have HRXy := keepG (HRXz.out.below hby HRXz.out.lt)))
                  | (go_at_call 20; go_must (refine (HMy.out.countsR HB2.out.ok HCC).mono ?_); rintro e wz ⟨rfl, hbz⟩; go_must (have HMz := keepG (HMy.out.below hbz); have HRAe := keepG (HRAy.out.below hbz HRAy.out.lt); have HRXe := keepG (HRXy.out.below hbz HRXy.out.lt))))
                first
                  | (go_roundw
                     case rel => exact ⟨j + 1, by omega, by go_num, r2, s, last, rfl, HMz, HRAe, HRXe, HB2, HBo⟩
                     case measure => simp [intOf]; omega)
                  | exact ⟨⟨j + 1, by omega, by go_num, r2, s, last, rfl, HMz, HRAe, HRXe, HB2, HBo⟩, by simp [intOf]; omega⟩
    
  
      · have HMS := keepG HMX.out.swap
        go_wp2_with (rw [HX.out])
        refine wp_region_held_drew (S := fun w' => w'.cell? ⟨R, 1, none⟩ = some (.pointer (some ⟨rb, 0, none⟩)) ∧ w'.cell? ⟨R + 1, 1, none⟩ = some (.pointer (some ⟨ry, 0, none⟩))) (by kernel_rfl) ⟨a1, x1⟩ (fun hHeld => ?_)
        refine tkGo [0, 1, 2, 3, 4, 5, 6, 7, 8, 9] ?_
        repeat (refine tkOne (v := ?_) rfl (by kernel_rfl) (by kernel_rfl) (by kernel_rfl) (fun _ _ _ h => h) (by assumption) (by rfl) ?_ ?_; rotate_left; (intro wy hSw; (try dsimp only at hSw); go_simp; (first | done | with_reducible rfl)); try simp only [Act.put, List.getElem_toArray, List.getElem_cons_zero, List.getElem_cons_succ, List.setIfInBounds_toArray, List.set_cons_zero, List.set_cons_succ])
        refine tkEnd ?_
        refine wpAnyH_done (by kernel_rfl) ?_ _
        clear hHeld
        by_cases hk0 : xk = 0
        · subst hk0
          rcases Rg.acc_cases (r := s) xa xb (last + 1) with ⟨E, r2, hE, hacc⟩ | ⟨r2, hacc⟩
          · have HQa := keepG hacc
            have HB2 : Hid (Ob r2 last (j + 1)) := by
              have := HBs.out.step xa xb
              rw [hacc] at this
              simp only [lastA] at this
              first | exact this | (rw [if_neg hE] at this; exact this) | (rw [if_pos rfl] at this; exact this)
            have HBo : Hid (Ob r last (j + 1)) := HBr.out.more (by omega) (by omega)
            have HLa : Hid ((if (E : Int) = 0 then last + 1 else last) = last) := if_neg hE
            clear hacc hE
            obtain ⟨c1, c2, c3, c4, c5, HCC⟩ : ∃ a b c d e, Hid (r2.counts = (a, b, c, d, e)) := ⟨_, _, _, _, _, rfl⟩
            go_wp2_with (first
              | (go_at_call 10; go_must (refine (HMS.out.acceptL xa xb HBs.out.ok (by omega) (by omega) (by have := HBs.out.ref; omega) HQa HLa).mono ?_); rintro e w7 ⟨rfl, ht7, hot7⟩; go_must (have HM7 := keepG ht7; have HRA7 := keepG (hot7 _ _ _ (by decide) (by decide) (by decide) (by decide) HRAX.out); have HRX7 := keepG (hot7 _ _ _ (by decide) (by decide) (by decide) (by decide) HRXX.out); have Hp7 := keepG (hot7 _ _ _ (by decide) (by decide) (by decide) (by decide) HpX.out); have e2 := Hp7.out.cell (j := 2) rfl; have e3 := Hp7.out.cell (j := 3) rfl; clear ht7 hot7))
              | (go_at_call 11; go_must (refine (HM7.out.acceptR xa xb (last + 1) HBs.out.ok (by have := HBs.out.all; omega) (by have := HBs.out.ref; omega) HQa).mono ?_); rintro e w8 ⟨rfl, ht8, hot8⟩; go_must (have HM8 := keepG ht8; have HRAz := keepG (hot8 _ _ _ (by decide) (by decide) (by decide) (by decide) HRA7.out); have HRXz := keepG (hot8 _ _ _ (by decide) (by decide) (by decide) (by decide) HRX7.out); clear ht8 hot8))
              | (go_at_call 19; go_must (refine (HM8.out.countsL HB2.out.ok (by have := HB2.out.all; omega) HCC).mono ?_); rintro e wy ⟨rfl, hby⟩; go_must (have HMy := keepG (HM8.out.below hby); have HRAy := keepG (HRAz.out.below hby HRAz.out.lt); have HRXy := keepG (HRXz.out.below hby HRXz.out.lt)))
              | (go_at_call 20; go_must (refine (HMy.out.countsR HB2.out.ok HCC).mono ?_); rintro e wz ⟨rfl, hbz⟩; go_must (have HMz := keepG (HMy.out.below hbz); have HRAe := keepG (HRAy.out.below hbz HRAy.out.lt); have HRXe := keepG (HRXy.out.below hbz HRXy.out.lt))))
            first
              | (go_roundw
                 case rel => exact ⟨j + 1, by omega, by go_num, r, r2, last, rfl, HMz.out.swap, HRAe, HRXe, HBo, HB2⟩
                 case measure => simp [intOf]; omega)
              | exact ⟨⟨j + 1, by omega, by go_num, r, r2, last, rfl, HMz.out.swap, HRAe, HRXe, HBo, HB2⟩, by simp [intOf]; omega⟩
    
          · have HQa := keepG hacc
            have HB2 : Hid (Ob r2 (last + 1) (j + 1)) := by
              have := HBs.out.step xa xb
              rw [hacc] at this
              simp only [lastA] at this
              first | exact this | (rw [if_neg hE] at this; exact this) | (rw [if_pos rfl] at this; exact this)
            have HBo : Hid (Ob r (last + 1) (j + 1)) := HBr.out.more (by omega) (by omega)
            have HLa : Hid ((if (0 : Int) = 0 then last + 1 else last) = (last + 1)) := rfl
            clear hacc
            obtain ⟨c1, c2, c3, c4, c5, HCC⟩ : ∃ a b c d e, Hid (r2.counts = (a, b, c, d, e)) := ⟨_, _, _, _, _, rfl⟩
            go_wp2_with (first
              | (go_at_call 10; go_must (refine (HMS.out.acceptL xa xb HBs.out.ok (by omega) (by omega) (by have := HBs.out.ref; omega) HQa HLa).mono ?_); rintro e w7 ⟨rfl, ht7, hot7⟩; go_must (have HM7 := keepG ht7; have HRA7 := keepG (hot7 _ _ _ (by decide) (by decide) (by decide) (by decide) HRAX.out); have HRX7 := keepG (hot7 _ _ _ (by decide) (by decide) (by decide) (by decide) HRXX.out); have Hp7 := keepG (hot7 _ _ _ (by decide) (by decide) (by decide) (by decide) HpX.out); have e2 := Hp7.out.cell (j := 2) rfl; have e3 := Hp7.out.cell (j := 3) rfl; clear ht7 hot7))
              | (go_at_call 11; go_must (refine (HM7.out.acceptR xa xb (last + 1) HBs.out.ok (by have := HBs.out.all; omega) (by have := HBs.out.ref; omega) HQa).mono ?_); rintro e w8 ⟨rfl, ht8, hot8⟩; go_must (have HM8 := keepG ht8; have HRAz := keepG (hot8 _ _ _ (by decide) (by decide) (by decide) (by decide) HRA7.out); have HRXz := keepG (hot8 _ _ _ (by decide) (by decide) (by decide) (by decide) HRX7.out); clear ht8 hot8))
              | (go_at_call 19; go_must (refine (HM8.out.countsL HB2.out.ok (by have := HB2.out.all; omega) HCC).mono ?_); rintro e wy ⟨rfl, hby⟩; go_must (have HMy := keepG (HM8.out.below hby); have HRAy := keepG (HRAz.out.below hby HRAz.out.lt); have HRXy := keepG (HRXz.out.below hby HRXz.out.lt)))
              | (go_at_call 20; go_must (refine (HMy.out.countsR HB2.out.ok HCC).mono ?_); rintro e wz ⟨rfl, hbz⟩; go_must (have HMz := keepG (HMy.out.below hbz); have HRAe := keepG (HRAy.out.below hbz HRAy.out.lt); have HRXe := keepG (HRXy.out.below hbz HRXy.out.lt))))
            first
              | (go_roundw
                 case rel => exact ⟨j + 1, by omega, by go_num, r, r2, (last + 1), rfl, HMz.out.swap, HRAe, HRXe, HBo, HB2⟩
                 case measure => simp [intOf]; omega)
              | exact ⟨⟨j + 1, by omega, by go_num, r, r2, (last + 1), rfl, HMz.out.swap, HRAe, HRXe, HBo, HB2⟩, by simp [intOf]; omega⟩
    
        · by_cases hk1 : xk = 1
          · subst hk1
            obtain ⟨q, ok, r2, HQt⟩ : ∃ q ok r2, Hid (s.take = (q, ok, r2)) := ⟨_, _, _, rfl⟩
            have HB2 := keepG (HBs.out.take1 HQt.out)
            have HBo := keepG HBr.out.le1
            obtain ⟨qn, qa, qb⟩ := q
            obtain ⟨c1, c2, c3, c4, c5, HCC⟩ : ∃ a b c d e, Hid (r2.counts = (a, b, c, d, e)) := ⟨_, _, _, _, _, rfl⟩
            go_wp2_with (first
              | (go_at_call 12; go_must (refine (HMS.out.takeL HBs.out.ok (by have := HBs.out.all; omega) HQt).mono ?_); rintro e w7 ⟨rfl, ht7, hot7⟩; go_must (obtain ⟨Z, HZ, hbZ, hpZ⟩ := que_box w7 ⟨qn, qa, qb⟩; have HM7 := keepG ht7; have hra := hot7 _ _ _ (by decide) (by decide) (by decide) (by decide) HRAX.out; have hrx := hot7 _ _ _ (by decide) (by decide) (by decide) (by decide) HRXX.out; have HRA7 := keepG (hra.below hbZ hra.lt); have HRX7 := keepG (hrx.below hbZ hrx.lt); try simp only at HZ hpZ; clear ht7 hot7 hra hrx))
              | (go_at_call 13; rw [HZ.out]; go_must (refine (HM7.out.takeR hbZ hpZ.out (Nat.le_refl _) HBs.out.ok (by have := HBs.out.all; omega) HQt).mono ?_); rintro e w8 ⟨rfl, ht8, hot8, hp8⟩; go_must (obtain ⟨Y, HY, hbY, hpY⟩ := que_box w8 ⟨qn, qa, qb⟩; have HM8 := keepG (ht8.below hbY); have hra := hot8 _ _ _ (by decide) (by decide) (by decide) (by decide) HRA7.out; have hrx := hot8 _ _ _ (by decide) (by decide) (by decide) (by decide) HRX7.out; have HRAz := keepG (hra.below hbY hra.lt); have HRXz := keepG (hrx.below hbY hrx.lt); have hpz := hp8.below hbY hp8.lt; have z0 := hpz.cell (j := 0) rfl; have z1 := hpz.cell (j := 1) rfl; have z2 := hpz.cell (j := 2) rfl; have y0 := hpY.out.cell (j := 0) rfl; have y1 := hpY.out.cell (j := 1) rfl; have y2 := hpY.out.cell (j := 2) rfl; rw [← HY.out] at z0 z1 z2 y0 y1 y2; rw [← HY.out] at HM8 HRAz HRXz; clear ht8 hot8 hra hrx hp8 hpz))
              | (go_at_call 19; go_must (refine (HM8.out.countsL HB2.out.ok (by have := HB2.out.all; omega) HCC).mono ?_); rintro e wy ⟨rfl, hby⟩; go_must (have HMy := keepG (HM8.out.below hby); have HRAy := keepG (HRAz.out.below hby HRAz.out.lt); have HRXy := keepG (HRXz.out.below hby HRXz.out.lt)))
              | (go_at_call 20; go_must (refine (HMy.out.countsR HB2.out.ok HCC).mono ?_); rintro e wz ⟨rfl, hbz⟩; go_must (have HMz := keepG (HMy.out.below hbz); have HRAe := keepG (HRAy.out.below hbz HRAy.out.lt); have HRXe := keepG (HRXy.out.below hbz HRXy.out.lt))))
            first
              | (go_roundw
                 case rel => exact ⟨j + 1, by omega, by go_num, r, r2, last, rfl, HMz.out.swap, HRAe, HRXe, HBo, HB2⟩
                 case measure => simp [intOf]; omega)
              | exact ⟨⟨j + 1, by omega, by go_num, r, r2, last, rfl, HMz.out.swap, HRAe, HRXe, HBo, HB2⟩, by simp [intOf]; omega⟩
          · by_cases hk2 : xk = 2
            · subst hk2
              obtain ⟨A, HA⟩ : ∃ A, Hid (s.waits = A) := ⟨_, rfl⟩
              obtain ⟨r2, HR2'⟩ : ∃ r2, Hid (s.shut.2 = r2) := ⟨_, rfl⟩
              have HB2 : Hid (Ob r2 last (j + 1)) := by rw [← HR2'.out]; exact HBs.out.shut1
              have HBo := keepG HBr.out.le1
              obtain ⟨c1, c2, c3, c4, c5, HCC⟩ : ∃ a b c d e, Hid (r2.counts = (a, b, c, d, e)) := ⟨_, _, _, _, _, rfl⟩
              go_wp2_with (first
                | (go_at_call 15; go_must (refine (HMS.out.shutL HBs.out.ok (by have := HBs.out.all; omega) HA).mono ?_); rintro e w7 ⟨v7, rfl, hv7, ht7, hot7⟩; go_must (rw [HR2'.out] at ht7; have HM7 := keepG ht7; have HV7 := keepG hv7; have HRA7 := keepG (hot7 _ _ _ (by decide) (by decide) (by decide) (by decide) HRAX.out); have HRX7 := keepG (hot7 _ _ _ (by decide) (by decide) (by decide) (by decide) HRXX.out); clear ht7 hot7 hv7))
                | (go_at_call 16; go_must (refine (HM7.out.shutR HBs.out.ok HA HV7.out).mono ?_); rintro e w8 ⟨v8, rfl, hv8, hv9, ht8, hot8⟩; go_must (rw [HR2'.out] at ht8; have HM8 := keepG ht8; have HV8 := keepG hv8; have HV9 := keepG hv9; have HRA8 := keepG (hot8 _ _ _ (by decide) (by decide) (by decide) (by decide) HRA7.out); have HRX8 := keepG (hot8 _ _ _ (by decide) (by decide) (by decide) (by decide) HRX7.out); clear ht8 hot8 hv8 hv9))
                | (go_at_call 14; go_must (refine (wqueuedB HV9.out HV8.out).mono ?_); rintro e w9 ⟨rfl, hb9⟩; go_must (have HM9 := keepG (HM8.out.below hb9); have HRAz := keepG (HRA8.out.below hb9 HRA8.out.lt); have HRXz := keepG (HRX8.out.below hb9 HRX8.out.lt)))
                | (go_at_call 19; go_must (refine (HM9.out.countsL HB2.out.ok (by have := HB2.out.all; omega) HCC).mono ?_); rintro e wy ⟨rfl, hby⟩; go_must (have HMy := keepG (HM9.out.below hby); have HRAy := keepG (HRAz.out.below hby HRAz.out.lt); have HRXy := keepG (HRXz.out.below hby HRXz.out.lt)))
                | (go_at_call 20; go_must (refine (HMy.out.countsR HB2.out.ok HCC).mono ?_); rintro e wz ⟨rfl, hbz⟩; go_must (have HMz := keepG (HMy.out.below hbz); have HRAe := keepG (HRAy.out.below hbz HRAy.out.lt); have HRXe := keepG (HRXy.out.below hbz HRXy.out.lt))))
              first
                | (go_roundw
                   case rel => exact ⟨j + 1, by omega, by go_num, r, r2, last, rfl, HMz.out.swap, HRAe, HRXe, HBo, HB2⟩
                   case measure => simp [intOf]; omega)
                | exact ⟨⟨j + 1, by omega, by go_num, r, r2, last, rfl, HMz.out.swap, HRAe, HRXe, HBo, HB2⟩, by simp [intOf]; omega⟩
            · by_cases hk3 : xk = 3
              · subst hk3
                obtain ⟨A, HA⟩ : ∃ A, Hid (s.waits = A) := ⟨_, rfl⟩
                obtain ⟨r2, HR2'⟩ : ∃ r2, Hid (s = r2) := ⟨_, rfl⟩
                have HB2 : Hid (Ob r2 last (j + 1)) := by rw [← HR2'.out]; exact HBs.out.le1
                have HBo := keepG HBr.out.le1
                obtain ⟨c1, c2, c3, c4, c5, HCC⟩ : ∃ a b c d e, Hid (r2.counts = (a, b, c, d, e)) := ⟨_, _, _, _, _, rfl⟩
                go_wp2_with (first
                  | (go_at_call 17; go_must (refine (HMS.out.waitsL HBs.out.ok HA).mono ?_); rintro e w7 ⟨v7, rfl, hv7, ht7, hot7⟩; go_must (have HM7 := keepG ht7; have HV7 := keepG hv7; have HRA7 := keepG (hot7 _ _ _ (by decide) (by decide) (by decide) (by decide) HRAX.out); have HRX7 := keepG (hot7 _ _ _ (by decide) (by decide) (by decide) (by decide) HRXX.out); clear ht7 hot7 hv7))
                  | (go_at_call 18; go_must (refine (HM7.out.waitsR HBs.out.ok HA).mono ?_); rintro e w8 ⟨v8, rfl, hv8, hb8⟩; go_must (have HM8 := keepG (HM7.out.below hb8); have HV8 := keepG hv8; have HV9 := keepG (HV7.out.below hb8 (Nat.le_refl _)); have HRA8 := keepG (HRA7.out.below hb8 HRA7.out.lt); have HRX8 := keepG (HRX7.out.below hb8 HRX7.out.lt); clear hv8))
                  | (go_at_call 14; go_must (refine (wqueuedB HV9.out HV8.out).mono ?_); rintro e w9 ⟨rfl, hb9⟩; go_must (have hm9 := HM8.out.below hb9; rw [HR2'.out] at hm9; have HM9 := keepG hm9; have HRAz := keepG (HRA8.out.below hb9 HRA8.out.lt); have HRXz := keepG (HRX8.out.below hb9 HRX8.out.lt); clear hm9))
                  | (go_at_call 19; go_must (refine (HM9.out.countsL HB2.out.ok (by have := HB2.out.all; omega) HCC).mono ?_); rintro e wy ⟨rfl, hby⟩; go_must (have HMy := keepG (HM9.out.below hby); have HRAy := keepG (HRAz.out.below hby HRAz.out.lt); have HRXy := keepG (HRXz.out.below hby HRXz.out.lt)))
                  | (go_at_call 20; go_must (refine (HMy.out.countsR HB2.out.ok HCC).mono ?_); rintro e wz ⟨rfl, hbz⟩; go_must (have HMz := keepG (HMy.out.below hbz); have HRAe := keepG (HRAy.out.below hbz HRAy.out.lt); have HRXe := keepG (HRXy.out.below hbz HRXy.out.lt))))
                first
                  | (go_roundw
                     case rel => exact ⟨j + 1, by omega, by go_num, r, r2, last, rfl, HMz.out.swap, HRAe, HRXe, HBo, HB2⟩
                     case measure => simp [intOf]; omega)
                  | exact ⟨⟨j + 1, by omega, by go_num, r, r2, last, rfl, HMz.out.swap, HRAe, HRXe, HBo, HB2⟩, by simp [intOf]; omega⟩
              · obtain ⟨r2, HR2'⟩ : ∃ r2, Hid (s = r2) := ⟨_, rfl⟩
                have HB2 : Hid (Ob r2 last (j + 1)) := by rw [← HR2'.out]; exact HBs.out.le1
                have HBo := keepG HBr.out.le1
                rw [HR2'.out] at HMS
                have HRAz := HRAX
                have HRXz := HRXX
                obtain ⟨c1, c2, c3, c4, c5, HCC⟩ : ∃ a b c d e, Hid (r2.counts = (a, b, c, d, e)) := ⟨_, _, _, _, _, rfl⟩
                go_wp2_with (first
                  | (go_at_call 19; go_must (refine (HMS.out.countsL HB2.out.ok (by have := HB2.out.all; omega) HCC).mono ?_); rintro e wy ⟨rfl, hby⟩; go_must (have HMy := keepG (HMS.out.below hby); have HRAy := keepG (HRAz.out.below hby HRAz.out.lt); have HRXy := keepG (HRXz.out.below hby HRXz.out.lt)))
                  | (go_at_call 20; go_must (refine (HMy.out.countsR HB2.out.ok HCC).mono ?_); rintro e wz ⟨rfl, hbz⟩; go_must (have HMz := keepG (HMy.out.below hbz); have HRAe := keepG (HRAy.out.below hbz HRAy.out.lt); have HRXe := keepG (HRXy.out.below hbz HRXy.out.lt))))
                first
                  | (go_roundw
                     case rel => exact ⟨j + 1, by omega, by go_num, r, r2, last, rfl, HMz.out.swap, HRAe, HRXe, HBo, HB2⟩
                     case measure => simp [intOf]; omega)
                  | exact ⟨⟨j + 1, by omega, by go_num, r, r2, last, rfl, HMz.out.swap, HRAe, HRXe, HBo, HB2⟩, by simp [intOf]; omega⟩
    
  
    · have hltI : ¬ (j : Int) < is.length := by omega
      obtain ⟨A, HA⟩ : ∃ A, Hid (r.waits = A) := ⟨_, rfl⟩
      obtain ⟨B, HB⟩ : ∃ A, Hid (s.waits = A) := ⟨_, rfl⟩
      obtain ⟨c1, c2, c3, c4, c5, HC1⟩ : ∃ a b c d e, Hid (r.counts = (a, b, c, d, e)) := ⟨_, _, _, _, _, rfl⟩
      obtain ⟨e1, e2, e3, e4, e5, HC2⟩ : ∃ a b c d e, Hid (s.counts = (a, b, c, d, e)) := ⟨_, _, _, _, _, rfl⟩
      have t1 : True := trivial
      have t2 : True := trivial
      have t3 : True := trivial
      have t4 : True := trivial
      have t5 : True := trivial
      go_wp2_with (first
        | (go_at_call 17; have hq := t1; clear hq; go_must (refine (HM.out.waitsL HBr.out.ok HA).mono ?_); rintro e w7 ⟨v7, rfl, hv7, ht7, _⟩; go_must (have HM7 := keepG ht7; have HV7 := keepG hv7; clear ht7 hv7 t1))
        | (go_at_call 18; have hq := t2; clear hq; go_must (refine (HM7.out.waitsR HBr.out.ok HA).mono ?_); rintro e w8 ⟨v8, rfl, hv8, hb8⟩; go_must (have HM8 := keepG (HM7.out.below hb8); have HV8 := keepG hv8; have HV9 := keepG (HV7.out.below hb8 (Nat.le_refl _)); clear hv8 t2))
        | (go_at_call 14; have hq := t3; clear hq; go_must (refine (wqueuedB HV9.out HV8.out).mono ?_); rintro e w9 ⟨rfl, hb9⟩; go_must (have HM9 := keepG (HM8.out.below hb9).swap; clear t3))
        | (go_at_call 17; go_must (refine (HM9.out.waitsL HBs.out.ok HB).mono ?_); rintro e wa ⟨va, rfl, hva, hta, _⟩; go_must (have HMa := keepG hta; have HVa := keepG hva; clear hta hva))
        | (go_at_call 18; go_must (refine (HMa.out.waitsR HBs.out.ok HB).mono ?_); rintro e wb ⟨vb, rfl, hvb, hbb⟩; go_must (have HMb := keepG (HMa.out.below hbb); have HVb := keepG hvb; have HVc := keepG (HVa.out.below hbb (Nat.le_refl _)); clear hvb))
        | (go_at_call 14; go_must (refine (wqueuedB HVc.out HVb.out).mono ?_); rintro e wc ⟨rfl, hbc⟩; go_must (have HMc := keepG (HMb.out.below hbc).swap))
        | (go_at_call 19; have hq := t4; clear hq; go_must (refine (HMc.out.countsL HBr.out.ok (by have := HBr.out.all; omega) HC1).mono ?_); rintro e wd ⟨rfl, hbd⟩; go_must (have HMd := keepG (HMc.out.below hbd); clear t4))
        | (go_at_call 20; have hq := t5; clear hq; go_must (refine (HMd.out.countsR HBr.out.ok HC1).mono ?_); rintro e we ⟨rfl, hbe⟩; go_must (have HMe := keepG (HMd.out.below hbe).swap; clear t5))
        | (go_at_call 19; go_must (refine (HMe.out.countsL HBs.out.ok (by have := HBs.out.all; omega) HC2).mono ?_); rintro e wf ⟨rfl, hbf⟩; go_must (have HMf := keepG (HMe.out.below hbf)))
        | (go_at_call 20; go_must (refine (HMf.out.countsR HBs.out.ok HC2).mono ?_); rintro e wg ⟨rfl, hbg⟩; go_must (have HMg := keepG (HMf.out.below hbg))))
      go_ret
      exact ⟨rfl, HMg.out.be⟩
/-- RingPlays. -/
theorem ringPlays_walk (n1 n2 : Int) (sv : Value) (is : List Oc) (w : World) {P0 P1 : Prop} (_ : P0) (_ : P1) (hs : SeesG ocC 4 Oc.nil w sv is) (hlen : is.length * 32 ≤ 140737488351232) :
    Calls Try.prog 3 #[.int .i64 n1, .int .i64 n2, sv] w fun e w' => e = .returned (.bool true) ∧ Below w.heap.size w w' := by
  by_cases h : n1 < 1 ∨ 16 < n1
  · by_cases g : n2 < 1 ∨ 16 < n2
    · exact ringPlays_nn n1 h n2 g sv w
    · obtain ⟨m, rfl⟩ : ∃ m : Nat, n2 = m := ⟨n2.toNat, by omega⟩
      exact ringPlays_ny n1 h m (by omega) (by omega) sv w
  · obtain ⟨k, rfl⟩ : ∃ k : Nat, n1 = k := ⟨n1.toNat, by omega⟩
    by_cases g : n2 < 1 ∨ 16 < n2
    · exact ringPlays_yn k (by omega) (by omega) n2 g sv w
    · obtain ⟨m, rfl⟩ : ∃ m : Nat, n2 = m := ⟨n2.toNat, by omega⟩
      exact ringPlays_ok k m (by omega) (by omega) (by omega) (by omega) sv is w hs hlen
end Go.Proofs.Ythcdfknadcdfkaa
