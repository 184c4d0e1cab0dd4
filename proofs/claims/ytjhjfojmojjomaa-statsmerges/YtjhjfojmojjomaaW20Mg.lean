
/-
  StatsMerges, walked. Condition: none but the arguments' reading.
-/
import Derived.Test.YtjhjfojmojjomaaW20M
namespace Go.Proofs.Ytjhjfojmojjomaa
open Go.RowKit
set_option linter.unusedVariables false
set_option linter.unusedSimpArgs false
set_option maxRecDepth 100000
theorem Sees.at20 {w : World} {a : Option Addr} {n cap : Nat} {xs : List Int} (h : Sees .i64 w (.slice a n cap) xs) {j : Nat} (hj : j < xs.length) : ∃ p off, a = some ⟨p, off, none⟩ ∧ ∀ i, i < xs.length → w.cell? ⟨p, off + i, none⟩ = some (.int .i64 (xs.getD i 0)) := by
  obtain ⟨a', cap', ev, _, _, _, _, hc⟩ := h
  simp only [Value.slice.injEq] at ev
  obtain ⟨rfl, _, rfl⟩ := ev
  obtain ⟨p, off, rfl, _, hat⟩ := hc (fun e => by rw [e] at hj; simp at hj)
  exact ⟨p, off, rfl, hat⟩
section
variable {w0 w : World} {a b o k : Nat} {Fa Fb Fo Fk : Ft} {la lb lo lk : List To}
theorem Lf.mgs (h : Lf w0 w a b o k Fa Fb Fo Fk la lb lo lk) (qs : List (Option Nat)) (hq0 : qs ≠ []) (hl : qs.length ≤ 100) (hq : ∀ x, some x ∈ qs → x = a ∨ x = b ∨ x = o ∨ x = k) {A : List Ta} (h4 : A.length = 4) (HA : Hid (four (toldAll (pick4 a b o la lb lo lk) qs) = A)) : Calls Try.prog 14 #[.slice (some ⟨w.heap.size, 0, none⟩) qs.length qs.length] (w.alloc (.cells (qs.map (fun q => Value.pointer (q.map (fun b => (⟨b, 0, none⟩ : Addr))))).toArray 24)) fun e w' => ∃ p c, e = .returned (.slice (some ⟨p, 0, none⟩) 4 c) ∧ (w.heap.size ≤ p ∧ p < w'.heap.size) ∧ (4 ≤ c ∧ c ≤ 9223372036854775807) ∧ RoTa w' w.heap.size (.slice (some ⟨p, 0, none⟩) 4 c) A ∧ Below w.heap.size w w' := by
  have hb := below_allocG w (.cells (qs.map (fun q => Value.pointer (q.map (fun b => (⟨b, 0, none⟩ : Addr))))).toArray 24)
  refine ((h.below hb).mg (lit_pt w qs hq0 hl) hl hq HA).mono ?_
  rintro e w' ⟨u, rfl, h1, h2⟩
  obtain ⟨p, c, rfl, h5, h6, h7, h8, _⟩ := h1.cells (by omega)
  rw [h4] at h1 h7 ⊢
  exact ⟨p, c, rfl, ⟨Nat.le_trans hb.size h5, h6⟩, ⟨h7, h8⟩, own_lowG h1 hb.size, hb.trans (h2.mono hb.size)⟩
end
theorem lit_ta (w : World) : SeesG taC 5 Ta.nil (w.alloc (.cells #[.int .u64 0, .int .u64 0, .int .u64 0, .int .u64 0, .int .u64 0] 40)) (.slice (some ⟨w.heap.size, 0, none⟩) 1 1) [Ta.nil] := by
  have h : RoTa (w.alloc (.cells #[.int .u64 0, .int .u64 0, .int .u64 0, .int .u64 0, .int .u64 0] 40)) w.heap.size (.slice (some ⟨w.heap.size, 0, none⟩) 1 1) [Ta.nil] :=
    own_of (cs := [.int .u64 0, .int .u64 0, .int .u64 0, .int .u64 0, .int .u64 0]) (Nat.le_refl _) (heap_alloc_new w _) (Nat.le_refl _) (by simp [maxLen]) rfl rfl
  exact h.sees
theorem ta_flat1 : ∀ u ∈ flatG taC [Ta.nil], u.oneCell' = true := by
  intro u hu
  simp only [flatG, taC, Ta.nil, List.flatMap_cons, List.flatMap_nil, List.append_nil, List.mem_cons, List.not_mem_nil, or_false] at hu
  rcases hu with rfl | rfl | rfl | rfl | rfl <;> rfl
set_option maxHeartbeats 25600000 in
theorem statsMerges_ok (sv tv : Value) (is : List Ow) (ts : List Int) (w : World) (hs : Scr w sv is) (ht : Sees .i64 w tv ts) (hlen : is.length * 72 ≤ 140737488351232) (hz : ∀ x ∈ is, x.ws.length * 8 ≤ 140737488351232) (htl : ts.length * 8 ≤ 140737488351232) :
    Calls Try.prog 4 #[sv, tv] w fun e w' => e = .returned (.bool true) ∧ Below w.heap.size w w' := by
  have HSC := keepG hs
  have HTS := keepG (fun (wx : World) (hb : Below w.heap.size w wx) => ht.below hb (Nat.le_refl _))
  have HSZI := keepG hz
  obtain ⟨sa, sc, rfl, hsc, hsm, _, _⟩ := hs.sees
  obtain ⟨ta, tc, rfl, htc, htm, _⟩ := ht
  have hsm' : sc ≤ 9223372036854775807 := by unfold maxLen at hsm; omega
  have htm' : tc ≤ 9223372036854775807 := by unfold maxLen at htm; omega
  obtain ⟨i0, hi0, hz0, hzs, hzb⟩ := info_parts infoTa
  clear hs hsm htm hz
  go_enter Try.func4, Try.ntmps4
  go_wp2_with (first
    | (go_at_call 6; go_must (refine (awake20_any w).mono ?_); rintro e w1 ⟨rfl, hb1⟩; go_must (have HB1 := keepG hb1; clear hb1))
    | (have hq := HC4; clear hq; go_at_call 7; go_must (refine (lznew HC4.out.1.be).mono ?_); rintro e w5 ⟨k, Fk, rfl, hL, hS, hb⟩; go_must (have HD5 : Hid (Lf w w5 a b o k Fa Fb Fo Fk [] [] [] []) := ⟨HC4.out.1.below hb, HC4.out.2.1.below hb, HC4.out.2.2.1.below hb, hL, HC4.out.2.2.2.1, HC4.out.2.2.2.2.1, Apt.made HC4.out.1.lies hS, HC4.out.2.2.2.2.2, Apt.made HC4.out.2.1.lies hS, Apt.made HC4.out.2.2.1.lies hS⟩; clear hL hS hb))
    | (have hq := HB3; clear hq; go_at_call 7; go_must (refine (lznew HB3.out.1.be).mono ?_); rintro e w4 ⟨o, Fo, rfl, hL, hS, hb⟩; go_must (have HC4 : Hid (Lz w w4 a Fa [] ∧ Lz w w4 b Fb [] ∧ Lz w w4 o Fo [] ∧ Apt Fa Fb ∧ Apt Fa Fo ∧ Apt Fb Fo) := ⟨HB3.out.1.below hb, HB3.out.2.1.below hb, hL, HB3.out.2.2, Apt.made HB3.out.1.lies hS, Apt.made HB3.out.2.1.lies hS⟩; clear hL hS hb))
    | (have hq := HA2; clear hq; go_at_call 7; go_must (refine (lznew HA2.out.be).mono ?_); rintro e w3 ⟨b, Fb, rfl, hL, hS, hb⟩; go_must (have HB3 : Hid (Lz w w3 a Fa [] ∧ Lz w w3 b Fb [] ∧ Apt Fa Fb) := ⟨HA2.out.below hb, hL, Apt.made HA2.out.lies hS⟩; clear hL hS hb))
    | (go_at_call 7; go_must (refine (lznew HB1.out).mono ?_); rintro e w2 ⟨a, Fa, rfl, hL, _, _⟩; go_must (have HA2 := keepG hL; clear hL)))
  clear HB1 HA2 HB3 HC4
  go_loopw [9] (fun i wr => ∃ j : Nat, j ≤ is.length ∧ i = .int .i64 j ∧ ∃ Fa Fb Fo Fk la lb, Hid (Lf w wr a b o k Fa Fb Fo Fk la lb (toldS (is.take j)) (toldS (is.reverse.take j)) ∧ (la ++ lb).Perm (toldS (is.take j)))) (fun i _ => is.length - (intOf i).toNat)
  case atStart => exact ⟨0, by omega, rfl, Fa, Fb, Fo, Fk, [], [], HD5.out, List.Perm.refl _⟩
  case round =>
    clear HD5
    obtain ⟨j, hj, rfl, Fa, Fb, Fo, Fk, la, lb, HM⟩ := hrel
    rename World => wr
    by_cases hlt : j < is.length
    · have hltI : (j : Int) < is.length := by omega
      obtain ⟨x, HX⟩ : ∃ x, Hid (is.getD j Ow.nil = x) := ⟨_, rfl⟩
      obtain ⟨r, hr⟩ : ∃ r : Nat, is.length - 1 - j = r := ⟨_, rfl⟩
      have hrl : r < is.length := by omega
      have hrI : (is.length : Int) - 1 - (j : Int) = (r : Int) := by omega
      obtain ⟨y, HY⟩ : ∃ y, Hid (is.getD r Ow.nil = y) := ⟨_, rfl⟩
      have hzx := HSZI.out _ (getD_memW is j hlt)
      have hzy := HSZI.out _ (getD_memW is r hrl)
      rw [HX.out] at hzx
      rw [HY.out] at hzy
      have HATX := keepG (fun (wx : World) (hb : Below w.heap.size w wx) => HSC.out.at hb hlt HX.out)
      have HATY := keepG (fun (wx : World) (hb : Below w.heap.size w wx) => HSC.out.at hb hrl HY.out)
      have HTM := keepG (toldS_more is hlt)
      have HTB := keepG (toldS_back is hlt)
      rw [HX.out] at HTM
      rw [hr, HY.out] at HTB
      obtain ⟨lo, HLO⟩ : ∃ lo, Hid (toldS (is.take j) = lo) := ⟨_, rfl⟩
      obtain ⟨lk, HLK⟩ : ∃ lk, Hid (toldS (is.reverse.take j) = lk) := ⟨_, rfl⟩
      rw [HLO.out] at HM HTM
      rw [HLK.out] at HM HTB
      obtain ⟨Ea, HEA⟩ := tellL_told la x
      obtain ⟨Eb, HEB⟩ := tellL_told lb x
      obtain ⟨Eo, HEO⟩ := tellL_told lo x
      obtain ⟨Ek, HEK⟩ := tellL_told lk y
      replace HEA := keepG HEA
      replace HEB := keepG HEB
      replace HEO := keepG HEO
      replace HEK := keepG HEK
      obtain ⟨p, off, cap, ev, _, _, ⟨d0, d1, d2, d3, d4, d5, d6⟩, _, _⟩ := HATX.out wr HM.out.1.xa.be
      simp only [Value.slice.injEq, true_and] at ev
      obtain ⟨rfl, rfl⟩ := ev
      have HCX : Hid (∀ wx : World, Below w.heap.size w wx → (wx.cell? ⟨p, off + j * 7, none⟩ = some (.int .i64 x.k) ∧ wx.cell? ⟨p, off + j * 7 + 1, none⟩ = some (.int .i64 x.on) ∧ wx.cell? ⟨p, off + j * 7 + 2, none⟩ = some (.int .i64 x.h) ∧ wx.cell? ⟨p, off + j * 7 + 3, none⟩ = some (.int .u64 x.s) ∧ wx.cell? ⟨p, off + j * 7 + 4, none⟩ = some (.int .u64 x.c) ∧ wx.cell? ⟨p, off + j * 7 + 5, none⟩ = some (.int .u64 x.r) ∧ wx.cell? ⟨p, off + j * 7 + 6, none⟩ = some x.u) ∧ Sees .i64 wx x.u x.ws) := by
        intro wx hb
        obtain ⟨p2, off2, cap2, ev2, _, _, e1, e2, _⟩ := HATX.out wx hb
        simp only [Value.slice.injEq, Option.some.injEq, Addr.mk.injEq, and_true, true_and] at ev2
        obtain ⟨⟨rfl, rfl⟩, rfl⟩ := ev2
        exact ⟨e1, e2⟩
      have HCY : Hid (∀ wx : World, Below w.heap.size w wx → (wx.cell? ⟨p, off + r * 7, none⟩ = some (.int .i64 y.k) ∧ wx.cell? ⟨p, off + r * 7 + 1, none⟩ = some (.int .i64 y.on) ∧ wx.cell? ⟨p, off + r * 7 + 2, none⟩ = some (.int .i64 y.h) ∧ wx.cell? ⟨p, off + r * 7 + 3, none⟩ = some (.int .u64 y.s) ∧ wx.cell? ⟨p, off + r * 7 + 4, none⟩ = some (.int .u64 y.c) ∧ wx.cell? ⟨p, off + r * 7 + 5, none⟩ = some (.int .u64 y.r) ∧ wx.cell? ⟨p, off + r * 7 + 6, none⟩ = some y.u) ∧ Sees .i64 wx y.u y.ws) := by
        intro wx hb
        obtain ⟨p2, off2, cap2, ev2, _, _, e1, e2, _⟩ := HATY.out wx hb
        simp only [Value.slice.injEq, Option.some.injEq, Addr.mk.injEq, and_true, true_and] at ev2
        obtain ⟨⟨rfl, rfl⟩, rfl⟩ := ev2
        exact ⟨e1, e2⟩
      clear HATX HATY
      by_cases hjt : j < ts.length
      · have hjtI : (j : Int) < ts.length := by omega
        have hjtb : decide ((j : Int) < ts.length) = true := by simpa using hjtI
        obtain ⟨g, goff, ev, hat⟩ := (HTS.out wr HM.out.1.xa.be).at20 hjt
        subst ev
        have g0 := hat j hjt
        obtain ⟨z, HZ⟩ : ∃ z, Hid (ts.getD j 0 = z) := ⟨_, rfl⟩
        rw [HZ.out] at g0
        clear hat
        by_cases hz2 : z.tmod 2 = 0
        · have hz2b : (z.tmod 2 != 0) = false := by simpa using hz2
          go_wp2_with (first
            | (have hq := HM3; clear hq; go_at_call 10; go_must (refine (wtell HM3.out.xk y (fun wx hb => (HCY.out wx hb).2) hzy HEK).mono ?_); rintro e w8 ⟨rfl, F8, hl8, hn8⟩; go_must (have HM4 := keepG (HM3.out.atK hl8 hn8); clear hl8 hn8))
            | (have hq := HM2; clear hq; go_at_call 10; go_must (refine (wtell HM2.out.xo x (fun wx hb => (HCX.out wx hb).2) hzx HEO).mono ?_); rintro e w7 ⟨rfl, F7, hl7, hn7⟩; go_must (have HM3 := keepG (HM2.out.atO hl7 hn7); obtain ⟨f0, f1, f2, f3, f4, f5, f6⟩ := (HCY.out w7 HM3.out.xa.be).1; clear hl7 hn7))
            | (go_at_call 10; go_must (refine (wtell HM.out.1.xb x (fun wx hb => (HCX.out wx hb).2) hzx HEB).mono ?_); rintro e w6 ⟨rfl, F6, hl6, hn6⟩; go_must (have HM2 := keepG (HM.out.1.atB hl6 hn6); obtain ⟨e0, e1, e2, e3, e4, e5, e6⟩ := (HCX.out w6 HM2.out.xa.be).1; clear hl6 hn6)))
          go_roundw
          case rel => exact ⟨j + 1, by omega, by go_num, Fa, F6, F7, F8, la, lb ++ toldO x, ⟨by rw [HTM.out, HTB.out]; exact HM4.out, by rw [HTM.out]; exact perm_right HM.out.2⟩⟩
          case measure => simp [intOf]; omega
        · have hz2b : (z.tmod 2 != 0) = true := by simpa using hz2
          go_wp2_with (first
            | (have hq := HM3; clear hq; go_at_call 10; go_must (refine (wtell HM3.out.xk y (fun wx hb => (HCY.out wx hb).2) hzy HEK).mono ?_); rintro e w8 ⟨rfl, F8, hl8, hn8⟩; go_must (have HM4 := keepG (HM3.out.atK hl8 hn8); clear hl8 hn8))
            | (have hq := HM2; clear hq; go_at_call 10; go_must (refine (wtell HM2.out.xo x (fun wx hb => (HCX.out wx hb).2) hzx HEO).mono ?_); rintro e w7 ⟨rfl, F7, hl7, hn7⟩; go_must (have HM3 := keepG (HM2.out.atO hl7 hn7); obtain ⟨f0, f1, f2, f3, f4, f5, f6⟩ := (HCY.out w7 HM3.out.xa.be).1; clear hl7 hn7))
            | (go_at_call 10; go_must (refine (wtell HM.out.1.xa x (fun wx hb => (HCX.out wx hb).2) hzx HEA).mono ?_); rintro e w6 ⟨rfl, F6, hl6, hn6⟩; go_must (have HM2 := keepG (HM.out.1.atA hl6 hn6); obtain ⟨e0, e1, e2, e3, e4, e5, e6⟩ := (HCX.out w6 HM2.out.xa.be).1; clear hl6 hn6)))
          go_roundw
          case rel => exact ⟨j + 1, by omega, by go_num, F6, Fb, F7, F8, la ++ toldO x, lb, ⟨by rw [HTM.out, HTB.out]; exact HM4.out, by rw [HTM.out]; exact perm_left HM.out.2⟩⟩
          case measure => simp [intOf]; omega
      · have hjtI : ¬ (j : Int) < ts.length := by omega
        have hjtb : decide ((j : Int) < ts.length) = false := by simpa using hjtI
        go_wp2_with (first
          | (have hq := HM3; clear hq; go_at_call 10; go_must (refine (wtell HM3.out.xk y (fun wx hb => (HCY.out wx hb).2) hzy HEK).mono ?_); rintro e w8 ⟨rfl, F8, hl8, hn8⟩; go_must (have HM4 := keepG (HM3.out.atK hl8 hn8); clear hl8 hn8))
          | (have hq := HM2; clear hq; go_at_call 10; go_must (refine (wtell HM2.out.xo x (fun wx hb => (HCX.out wx hb).2) hzx HEO).mono ?_); rintro e w7 ⟨rfl, F7, hl7, hn7⟩; go_must (have HM3 := keepG (HM2.out.atO hl7 hn7); obtain ⟨f0, f1, f2, f3, f4, f5, f6⟩ := (HCY.out w7 HM3.out.xa.be).1; clear hl7 hn7))
          | (go_at_call 10; go_must (refine (wtell HM.out.1.xb x (fun wx hb => (HCX.out wx hb).2) hzx HEB).mono ?_); rintro e w6 ⟨rfl, F6, hl6, hn6⟩; go_must (have HM2 := keepG (HM.out.1.atB hl6 hn6); obtain ⟨e0, e1, e2, e3, e4, e5, e6⟩ := (HCX.out w6 HM2.out.xa.be).1; clear hl6 hn6)))
        go_roundw
        case rel => exact ⟨j + 1, by omega, by go_num, Fa, F6, F7, F8, la, lb ++ toldO x, ⟨by rw [HTM.out, HTB.out]; exact HM4.out, by rw [HTM.out]; exact perm_right HM.out.2⟩⟩
        case measure => simp [intOf]; omega
    · have hjl : j = is.length := by omega
      subst hjl
      have hltI : ¬ (is.length : Int) < is.length := by omega
      obtain ⟨T, HT⟩ : ∃ T, Hid (four (toldS is) = T) := ⟨_, rfl⟩
      have hT4 : T.length = 4 := by rw [← HT.out]; rfl
      rw [List.take_of_length_le (Nat.le_refl _), List.take_of_length_le (by simp)] at HM
      have HF0 := keepG HM.out.1
      have HA1 : Hid (four (toldAll (pick4 a b o la lb (toldS is) (toldS is.reverse)) [some a, some b]) = T) := by show _ = _; rw [HF0.out.told.1, ← HT.out]; exact four_perm HM.out.2
      have HA2 : Hid (four (toldAll (pick4 a b o la lb (toldS is) (toldS is.reverse)) [some b, none, some a]) = T) := by show _ = _; rw [HF0.out.told.2.1, ← HT.out]; exact four_perm (List.perm_append_comm.trans HM.out.2)
      have HA3 : Hid (four (toldAll (pick4 a b o la lb (toldS is) (toldS is.reverse)) [some o]) = T) := by show _ = _; rw [HF0.out.told.2.2.1]; exact HT.out
      have HA4 : Hid (four (toldAll (pick4 a b o la lb (toldS is) (toldS is.reverse)) [some k]) = T) := by show _ = _; rw [HF0.out.told.2.2.2, ← HT.out]; exact four_perm (toldS_rev is)
      obtain ⟨lo, HLO⟩ : ∃ lo, Hid (toldS is = lo) := ⟨_, rfl⟩
      obtain ⟨lk, HLK⟩ : ∃ lk, Hid (toldS is.reverse = lk) := ⟨_, rfl⟩
      rw [HLO.out, HLK.out] at HF0 HA1 HA2 HA3 HA4
      have HG : Hid (∀ k', Fa k' ∨ Fb k' ∨ Fo k' ∨ Fk k' → k' < wr.heap.size) := by
        rintro k' (e | e | e | e)
        · exact HF0.out.xa.lies _ e
        · exact HF0.out.xb.lies _ e
        · exact HF0.out.xo.lies _ e
        · exact HF0.out.xk.lies _ e
      have HWW := keepG HF0.out.xa.be.size
      have M1 : Hid (∀ wx, Lf w wx a b o k Fa Fb Fo Fk la lb lo lk → Calls Try.prog 14 #[.slice (some ⟨wx.heap.size, 0, none⟩) 2 2] (wx.alloc (.cells #[.pointer (some ⟨a, 0, none⟩), .pointer (some ⟨b, 0, none⟩)] 24)) fun e w' => ∃ p c, e = .returned (.slice (some ⟨p, 0, none⟩) 4 c) ∧ (wx.heap.size ≤ p ∧ p < w'.heap.size) ∧ (4 ≤ c ∧ c ≤ 9223372036854775807) ∧ RoTa w' wx.heap.size (.slice (some ⟨p, 0, none⟩) 4 c) T ∧ Below wx.heap.size wx w') := fun wx hf => hf.mgs [some a, some b] (by simp) (by simp) (fun x hx => by simp at hx; rcases hx with rfl | rfl <;> simp) hT4 HA1
      have M2 : Hid (∀ wx, Lf w wx a b o k Fa Fb Fo Fk la lb lo lk → Calls Try.prog 14 #[.slice (some ⟨wx.heap.size, 0, none⟩) 3 3] (wx.alloc (.cells #[.pointer (some ⟨b, 0, none⟩), .pointer none, .pointer (some ⟨a, 0, none⟩)] 24)) fun e w' => ∃ p c, e = .returned (.slice (some ⟨p, 0, none⟩) 4 c) ∧ (wx.heap.size ≤ p ∧ p < w'.heap.size) ∧ (4 ≤ c ∧ c ≤ 9223372036854775807) ∧ RoTa w' wx.heap.size (.slice (some ⟨p, 0, none⟩) 4 c) T ∧ Below wx.heap.size wx w') := fun wx hf => hf.mgs [some b, none, some a] (by simp) (by simp) (fun x hx => by simp at hx; rcases hx with rfl | rfl <;> simp) hT4 HA2
      have M3 : Hid (∀ wx, Lf w wx a b o k Fa Fb Fo Fk la lb lo lk → Calls Try.prog 14 #[.slice (some ⟨wx.heap.size, 0, none⟩) 1 1] (wx.alloc (.cells #[.pointer (some ⟨o, 0, none⟩)] 24)) fun e w' => ∃ p c, e = .returned (.slice (some ⟨p, 0, none⟩) 4 c) ∧ (wx.heap.size ≤ p ∧ p < w'.heap.size) ∧ (4 ≤ c ∧ c ≤ 9223372036854775807) ∧ RoTa w' wx.heap.size (.slice (some ⟨p, 0, none⟩) 4 c) T ∧ Below wx.heap.size wx w') := fun wx hf => hf.mgs [some o] (by simp) (by simp) (fun x hx => by simp at hx; subst hx; simp) hT4 HA3
      have M4 : Hid (∀ wx, Lf w wx a b o k Fa Fb Fo Fk la lb lo lk → Calls Try.prog 14 #[.slice (some ⟨wx.heap.size, 0, none⟩) 1 1] (wx.alloc (.cells #[.pointer (some ⟨k, 0, none⟩)] 24)) fun e w' => ∃ p c, e = .returned (.slice (some ⟨p, 0, none⟩) 4 c) ∧ (wx.heap.size ≤ p ∧ p < w'.heap.size) ∧ (4 ≤ c ∧ c ≤ 9223372036854775807) ∧ RoTa w' wx.heap.size (.slice (some ⟨p, 0, none⟩) 4 c) T ∧ Below wx.heap.size wx w') := fun wx hf => hf.mgs [some k] (by simp) (by simp) (fun x hx => by simp at hx; subst hx; simp) hT4 HA4
      clear HA1 HA2 HA3 HA4 HM HT HLO HLK HSC HTS HSZI
      go_wp2_with (first
        | (have hq := HR7; clear hq; go_at_call 13; go_must (refine (wtallies HZ8.out.sees HY8.out.sees).mono ?_); rintro e w9 ⟨rfl, hb⟩; go_must (have HX9 := keepG (HX8.out.below hb); have HY9 := keepG (HY8.out.below hb); have HF9 := keepG (HF8.out.below hb); clear hb))
        | (have hq := HR7; clear hq; go_at_call 14; go_must (refine (M4.out w7 HF7.out).mono ?_); rintro e w8 ⟨pz2, cz2, rfl, -, ⟨hz24, hz25⟩, hro, hb⟩; go_must (have HZ8 := keepG hro; have HX8 := keepG (HX7.out.below hb); have HY8 := keepG (HY7.out.below hb); have HF8 := keepG (HF7.out.below hb); clear hb hro))
        | (have hq := HR5; clear hq; go_at_call 13; go_must (refine (wtallies HZ6.out.sees HY6.out.sees).mono ?_); rintro e w7 ⟨rfl, hb⟩; go_must (have HR7 : Hid True := trivial; have HX7 := keepG (HX6.out.below hb); have HY7 := keepG (HY6.out.below hb); have HF7 := keepG (HF6.out.below hb); clear hb))
        | (have hq := HR5; clear hq; go_at_call 14; go_must (refine (M2.out w5 HF5.out).mono ?_); rintro e w6 ⟨pz, cz, rfl, -, ⟨hz4, hz5⟩, hro, hb⟩; go_must (have HZ6 := keepG hro; have HX6 := keepG (HX5.out.below hb); have HY6 := keepG (HY5.out.below hb); have HF6 := keepG (HF5.out.below hb); clear hb hro))
        | (go_at_call 13; go_must (refine (wtallies HX4.out.sees HY4.out.sees).mono ?_); rintro e w5 ⟨rfl, hb⟩; go_must (have HR5 : Hid True := trivial; have HX5 := keepG (HX4.out.below hb); have HY5 := keepG (HY4.out.below hb); have HF5 := keepG (HF4.out.below hb); clear hb))
        | (have hq := HX2; clear hq; go_at_call 14; go_must (refine (M3.out w2 HF2.out).mono ?_); rintro e w4 ⟨py, cy, rfl, ⟨hpy, -⟩, ⟨hy4, hy5⟩, hro, hb⟩; go_must (have HY4 := keepG hro; have HX4 := keepG (HX2.out.below hb); have HF4 := keepG (HF2.out.below hb); clear hb hro))
        | (go_at_call 14; go_must (refine (M1.out wr HF0.out).mono ?_); rintro e w2 ⟨px, cx, rfl, ⟨hpx, hpx2⟩, ⟨hx4, hx5⟩, hro, hb⟩; go_must (have HX2 := keepG hro; have HF2 := keepG (HF0.out.below hb); clear hb hro)))
      clear HX2 HF2 HX4 HY4 HF4 HX5 HY5 HF5 HX6 HY6 HF6 HX7 HY7 HF7 HX8 HY8 HF8 HZ6 HZ8 HR5 HR7
      have hpxy : px < py := by omega
      have hpxw : w.heap.size ≤ px := by have := HWW.out; omega
      have HPF : Hid (∀ k', k' = px → ¬ (Fa k' ∨ Fb k' ∨ Fo k' ∨ Fk k')) := by rintro k' rfl e; have := HG.out _ e; omega
      have HPY : Hid (∀ k', k' = px → ¬ ftV (.slice (some ⟨py, 0, none⟩) 4 cy) k') := by
        rintro k' rfl e
        have : py = k' := Option.some.inj e
        omega
      go_loopw [12] (fun i wq => ∃ q : Nat, q ≤ 4 ∧ i = .int .i64 q ∧ ∃ X : List Ta, Hid (X.length = 4 ∧ RoTa wq wr.heap.size (.slice (some ⟨px, 0, none⟩) 4 cx) X ∧ RoTa wq w2.heap.size (.slice (some ⟨py, 0, none⟩) 4 cy) T ∧ Lf w wq a b o k Fa Fb Fo Fk la lb lo lk)) (fun i _ => 4 - (intOf i).toNat)
      case atStart => exact ⟨0, by omega, rfl, T, hT4, HX9.out, HY9.out, HF9.out⟩
      case round =>
        clear HX9 HY9 HF9
        obtain ⟨q, hq, rfl, X, HI⟩ := hrel
        rename World => wq
        by_cases hqt : q < 4
        · have hqtI : (q : Int) < 4 := by omega
          obtain ⟨p', c', ev, -, -, -, -, hc⟩ := HI.out.2.1.cells (by have := HI.out.1; omega)
          simp only [Value.slice.injEq, Option.some.injEq, Addr.mk.injEq, and_true, true_and] at ev
          obtain ⟨rfl, -, rfl⟩ := ev
          obtain ⟨t, HT⟩ : ∃ t, Hid (X.getD q Ta.nil = t) := ⟨_, rfl⟩
          obtain ⟨c0, f0, hset⟩ := hc q (by have := HI.out.1; omega) t HT.out
          have HS := keepG hset
          clear hset hc
          go_wp2
          go_roundw
          case rel =>
            refine ⟨q + 1, by omega, by go_num, X.set q ⟨IntKind.u64.wrap (t.r + 1), t.m, t.s, t.c, t.u⟩, by rw [List.length_set]; exact HI.out.1, ?_, own_keeps HI.out.2.2.1 (Chg.set _ _ _ _) (fun k' e => HPY.out k' e), HI.out.2.2.2.keeps (Chg.set _ _ _ _) (fun k' e => by subst e; exact hpxw) (fun k' e g => HPF.out k' e (.inl g)) (fun k' e g => HPF.out k' e (.inr (.inl g))) (fun k' e g => HPF.out k' e (.inr (.inr (.inl g)))) (fun k' e g => HPF.out k' e (.inr (.inr (.inr g))))⟩
            have := HS.out (IntKind.u64.wrap (t.r + 1))
            rw [HI.out.1] at this
            exact this
          case measure => simp [intOf]; omega
        · have hqtI : ¬ (q : Int) < 4 := by omega
          obtain ⟨v8, w8, hrun, hown, hgr, _⟩ := run_append_seesG (P := Try.prog) (wq.alloc (.cells #[.int .u64 0, .int .u64 0, .int .u64 0, .int .u64 0, .int .u64 0] 40)) wr.heap.size 38 38 40 i0 _ 5 40 Try.underlying38 hi0 hz0 hzs hzb rfl (by decide) (.slice (some ⟨px, 0, none⟩) 4 cx) 4 (flatG taC X) (by have h5 := HI.out.2.1.below (below_allocG _ (.cells #[.int .u64 0, .int .u64 0, .int .u64 0, .int .u64 0, .int .u64 0] 40)); unfold RoTa at h5; rw [HI.out.1] at h5; exact h5) taC_len (lit_ta wq) ta_flat1 (by simp [maxLen]) (by simp) (by have := HI.out.2.1; have h6 := (this.lt px rfl).2; have h7 := (below_allocG wq (.cells #[.int .u64 0, .int .u64 0, .int .u64 0, .int .u64 0, .int .u64 0] 40)).size; omega)
          obtain ⟨va8, vc8, ev8⟩ := own_shape hown
          subst ev8
          have hbA := below_allocG wq (.cells #[.int .u64 0, .int .u64 0, .int .u64 0, .int .u64 0, .int .u64 0] 40)
          have hcg := Chg.of_grown hgr (S := fun k' => k' = px) rfl
          have HY8 : Hid (RoTa w8 w2.heap.size (.slice (some ⟨py, 0, none⟩) 4 cy) T) := own_keeps (HI.out.2.2.1.below hbA) hcg (fun k' e => HPY.out k' e)
          have HF8 : Hid (Lf w w8 a b o k Fa Fb Fo Fk la lb lo lk) := (HI.out.2.2.2.below hbA).keeps hcg (fun k' e => by subst e; exact hpxw) (fun k' e g => HPF.out k' e (.inl g)) (fun k' e g => HPF.out k' e (.inr (.inl g))) (fun k' e g => HPF.out k' e (.inr (.inr (.inl g)))) (fun k' e g => HPF.out k' e (.inr (.inr (.inr g))))
          clear hown hgr hbA hcg HI
          go_wp2_with (first
            | (at_builtin; go_must (refine wpList_appG _ rfl (.tmp 112) (.tmp 114) 38 38 rfl _ _ rfl rfl hrun ?_))
            | (go_at_call 14; go_must (refine (M1.out w8 HF8.out).mono ?_); rintro e w9 ⟨pz, cz, rfl, -, ⟨hz4, hz5⟩, hro, hb⟩; go_must (have HZ9 := keepG hro; have HY9 := keepG (HY8.out.below hb); have HF9 := keepG (HF8.out.below hb); clear hb hro))
            | (go_at_call 13; go_must (refine (wtallies HZ9.out.sees HY9.out.sees).mono ?_); rintro e w10 ⟨rfl, hb⟩; go_must (have HF10 := keepG (HF9.out.below hb); clear hb)))
          go_ret
          exact ⟨rfl, HF10.out.xa.be⟩
/-- StatsMerges. -/
theorem statsMerges_walk (sv : Value) (is : List Ow) (tv : Value) (ts : List Int) (w : World) (hs : Scr w sv is) (hlen : is.length * 72 ≤ 140737488351232 ∧ ∀ x ∈ is, x.ws.length * 8 ≤ 140737488351232) (ht : Sees .i64 w tv ts) (htl : ts.length * 8 ≤ 140737488351232) :
    Calls Try.prog 4 #[sv, tv] w fun e w' => e = .returned (.bool true) ∧ Below w.heap.size w w' := statsMerges_ok sv tv is ts w hs ht hlen.1 hlen.2 htl
end Go.Proofs.Ytjhjfojmojjomaa
