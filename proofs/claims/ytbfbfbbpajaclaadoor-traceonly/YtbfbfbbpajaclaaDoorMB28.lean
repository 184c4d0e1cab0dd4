
/-
  What the document's Read does behind the name, walked. Condition: the words lie in a row of their own.
-/
import Derived.Test.YtbfbfbbpajaclaaDoorMB0
import Derived.Test.YtbfbfbbpajaclaaDoorMB27
import Derived.Test.YtbfbfbbpajaclaaDoorMB26
import Derived.Test.YtbfbfbbpajaclaaDoorMB19
namespace Go.Proofs.YtbfbfbbpajaclaaDoor
open Go.RowKit
set_option linter.unusedVariables false
set_option linter.unusedSimpArgs false
set_option maxRecDepth 1000000
/-- What is read behind a name. -/
def restE (l : List UInt8) (f : List UInt8) (ts : List (List UInt8)) (e1 : En) : Option En :=
  if ts.length = f.length then
    match goE e1 f ts with
    | none => none
    | some e => if lineE e = l then some e else none
  else none
theorem readM_rest (m : Int) (ts : List (List UInt8)) (l : List UInt8) : readM m ts l = restE l (fldL m (outB m ts)) ts (startM m (outB m ts)) := rfl
theorem setE_wf {e : En} (h : e.wf) (c : UInt8) (t : List UInt8) : (setE e c t).1.wf := by
  unfold setE
  split
  · exact h
  split
  · exact h
  generalize hq : accL 0 (if negL t = true then t.drop 2 else t.drop 1) = q
  cases q with
  | none => exact h
  | some n =>
    have hn := accL_bd _ 0 (by omega) n hq
    have hk : -9223372036854775808 ≤ kE t n ∧ kE t n ≤ 9223372036854775807 := by unfold kE; split <;> exact wrap64_bd _
    show (putE e c.toNat (kE t n) n).wf
    exact putE_wf h _ hk (by omega)
theorem below_of_alloc {w X : World} {o : Obj} (h : w.alloc o = X) : Below w.heap.size w X := by rw [← h]; exact below_allocG _ _
def Out26 (wr : World) (n2 : Nat) (R : Option En) (a : Act) (w' : World) : Prop := ∃ (e : En) (ok : Bool), a.defers = [] ∧ a.tmps.getD 2 undef = .pointer (some ⟨n2, 0, none⟩) ∧ a.tmps.getD 3 undef = .bool ok ∧ Hp w' n2 36 (enC e) ∧ (ok = R.isSome ∧ ∀ q, R = some q → q = e) ∧ Below n2 wr w'
set_option maxHeartbeats 25600000 in
theorem tail26 {wr : World} {l f w0 : List UInt8} {ts : List (List UInt8)} {e1 : En} {n2 n8 g gc : Nat} (hl : l.length ≤ 4194304) (hwl : ts.length + 1 ≤ 4194305) (hfl : f.length ≤ 14) (hgc : ts.length + 1 ≤ gc ∧ gc ≤ 9223372036854775807) (h28 : n2 < n8) (hn8 : n8 < wr.heap.size) (HTL : Hid (∀ t ∈ ts, t.length ≤ 4194304))
    (HRW : Hid (∀ w', Below n8 wr w' → ∀ (j : Nat) x, (w0 :: ts)[j]? = some x → w'.cell? ⟨g, j, none⟩ = some (.string (str x)))) (HR2 : Hid (Hp wr n2 36 (enC En.nil))) (H8 : Hid (Hp wr n8 36 (enC e1))) (hw1 : e1.wf) {C : Code} (hC : tailR26 = C) (c1 c3 c5 c6 c7 c10 c11 c12 c13 c14 c15 c16 c17 c18 c19 c20 c21 c22 c23 c24 c25 c26 c27 c28 c29 c30 c31 c32 c33 c34 c35 c36 c37 c38 c39 c40 c41 c42 c43 c44 c45 c46 c47 c48 c49 c50 c51 c52 c53 c54 c55 c56 c57 c58 c59 c60 c61 c62 c63 c64 c65 c66 c67 c68 c69 c70 c71 c72 c73 c74 c75 c76 c77 c78 c79 c80 c81 c82 c83 c84 c85 c86 c87 c88 c89 c90 c91 c92 c93 c94 c95 c96 c97 c98 c99 c100 c101 : Value) :
    Code.wp Tryd.prog C (fun ex a w' => match ex with | .ret => Out26 wr n2 (restE l f ts e1) a w' | _ => False) ⟨#[.string (str l), c1, .pointer (some ⟨n2, 0, none⟩), c3, .slice (some ⟨g, 0, none⟩) (ts.length + 1) gc, c5, c6, c7, .pointer (some ⟨n8, 0, none⟩), .string (str f), c10, c11, c12, c13, c14, c15, c16, c17, c18, c19, c20, c21, c22, c23, c24, c25, c26, c27, c28, c29, c30, c31, c32, c33, c34, c35, c36, c37, c38, c39, c40, c41, c42, c43, c44, c45, c46, c47, c48, c49, c50, c51, c52, c53, c54, c55, c56, c57, c58, c59, c60, c61, c62, c63, c64, c65, c66, c67, c68, c69, c70, c71, c72, c73, c74, c75, c76, c77, c78, c79, c80, c81, c82, c83, c84, c85, c86, c87, c88, c89, c90, c91, c92, c93, c94, c95, c96, c97, c98, c99, c100, c101], []⟩ wr := by
  subst hC
  conv => arg 2; whnf
  obtain ⟨HW1⟩ : Nonempty (Hid e1.wf) := ⟨hw1⟩
  clear hw1
  by_cases hlen : ts.length = f.length
  rotate_left
  · have hne : (((ts.length : Nat) : Int) + 1 != (f.length : Int) + 1) = true := by simp; omega
    have HE : Hid (restE l f ts e1 = none) := by show _ = _; unfold restE; rw [if_neg hlen]
    obtain ⟨U, HU, H5, HBU⟩ : ∃ U, Hid (wr.setCells n2 0 (enC e1).toArray.toList = U) ∧ Hid (Hp U n2 36 (enC e1)) ∧ Hid (Below n2 wr U) := ⟨_, rfl, setsEn e1 HR2.out, (Below.refl _ _).trans (grown_to_below (grown_sets n2 (enC e1).toArray.toList _ 0) (Nat.le_refl _) (by omega))⟩
    go_wp2_with (first
      | ((with_reducible refine wpList_load_mid ?_ 36 (.tmp 8) ?_ n8 0 ?_ (enC e1) _ (enAt H8.out) Tryd.underlying36 ?_ (sizeEn _) ?_); rfl; rfl; rfl; rfl)
      | ((with_reducible refine wpList_store_mid ?_ 36 (.tmp 2) (.tmp 72) ?_ n2 0 (enC e1).toArray ?_ ?_ (thereEn HR2.out) (sizeEnA _) (oneEn _) ?_); rfl; rfl; rfl; rfl)
      | (rw [HU.out]))
    exact ⟨e1, false, rfl, rfl, rfl, H5.out, ⟨by rw [HE.out]; rfl, fun q hq => by rw [HE.out] at hq; cases hq⟩, HBU.out⟩
  · have hne : (((ts.length : Nat) : Int) + 1 != (f.length : Int) + 1) = false := by simp; omega
    have HRE : Hid (restE l f ts e1 = match goE e1 f ts with | none => none | some e => if lineE e = l then some e else none) := by show _ = _; unfold restE; rw [if_pos hlen]
    go_wp2
    go_loopw [10] (fun i wx => ∃ (k : Nat) (e : En), k ≤ f.length ∧ i = .int .i64 k ∧ Hid (goE e1 f ts = goE e (f.drop k) (ts.drop k)) ∧ Hid e.wf ∧ Hid (Hp wx n8 36 (enC e)) ∧ Hid (Hp wx n2 36 (enC En.nil)) ∧ Hid (Below n8 wr wx)) (fun i _ => f.length - (intOf i).toNat)
    case atStart => exact ⟨0, e1, by omega, rfl, rfl, HW1, H8.out, HR2.out, Below.refl _ _⟩
    case round =>
      rename World => wx
      obtain ⟨k, e, hk, rfl, HG, HEW, HE8, HE2, HBX⟩ := hrel
      have hxz : n8 < wx.heap.size := HE8.out.lt
      by_cases hlt : k < f.length
      · obtain ⟨c, hc, HD⟩ : ∃ c, (str f)[k]'(hlt) = c ∧ Hid (f.drop k = c :: f.drop (k + 1)) := ⟨_, rfl, by show _ = _; rw [List.drop_eq_getElem_cons hlt]; rfl⟩
        have hcb : c.toNat < 256 := UInt8.toNat_lt c
        have hltT : k < ts.length := by omega
        obtain ⟨t, HT⟩ : ∃ t, Hid (ts.getD k [] = t) := ⟨_, rfl⟩
        have htm : t ∈ ts := by rw [← HT.out]; simp [List.getD, hltT]
        have htl := HTL.out t htm
        have htk : (w0 :: ts)[k + 1]? = some t := by rw [List.getElem?_cons_succ, List.getElem?_eq_getElem hltT, ← HT.out, List.getD_eq_getElem?_getD, List.getElem?_eq_getElem hltT]; rfl
        have HTK := keepG htk
        have hs1 := HRW.out wx HBX.out (k + 1) t htk
        obtain ⟨⟨e', b⟩, HSE⟩ : ∃ q, Hid (setE e c t = q) := ⟨_, rfl⟩
        have HSET := keepG (fun wy => set26 e c t wy htl)
        rw [HSE.out] at HSET
        have HEW2 : Hid e'.wf := by have h := setE_wf HEW.out c t; rw [HSE.out] at h; exact h
        have HGO : Hid (goE e1 f ts = if b = true then goE e' (f.drop (k + 1)) (ts.drop (k + 1)) else none) := by
          show _ = _
          rw [HG.out, HD.out]
          show (if (setE e c ((ts.drop k).getD 0 [])).2 = true then goE (setE e c ((ts.drop k).getD 0 [])).1 (f.drop (k + 1)) ((ts.drop k).drop 1) else none) = _
          have h0 : (ts.drop k).getD 0 [] = t := by rw [← HT.out, List.getD_eq_getElem?_getD, List.getElem?_drop, List.getD_eq_getElem?_getD]; rfl
          rw [h0, HSE.out, List.drop_drop]
        have hk1 : (k : Int) + 1 < (ts.length : Int) + 1 := by omega
        have hk2 : (0 : Int) ≤ (k : Int) + 1 := by omega
        have hk3 : ((k : Int) + 1).toNat = k + 1 := by omega
        have hk4 : IntKind.i64.wrap ((k : Int) + 1) = (k : Int) + 1 := by rw [IntKind.wrap_i64]; omega
        have hk5 : (k : Int) + 1 < (f.length : Int) + 1 := by omega
        clear htm htk
        go_wp2
        refine wp_region_held_drew (S := fun w' => w'.rangeAt n8 0 (enC e) ∧ w'.cell? ⟨g, k + 1, none⟩ = some (.string (str t))) (by kernel_rfl) ⟨enAt HE8.out, hs1⟩ (fun hHeld => ?_)
        refine wpAnyH_take (i := 0) rfl (by kernel_rfl) (by kernel_rfl) (by kernel_rfl) (fun _ _ _ h => h) (yieldsIf_load_mid (by rfl) _ _ rfl _ _ rfl (enC e) _ (fun w h => h.1) Tryd.underlying36 rfl (sizeEn e)) (by assumption) ?_
        try simp only [Act.put, p1q, p2q, p3q, p4q, p5q, p6q]
        refine tkGo [1, 2, 3, 4, 5, 6, 7, 8] ?_
        repeat (refine tkO (v := ?_) rfl ?_ ?_; rotate_left; (intro wy hSw; (try dsimp only at hSw); go_simp; (first | done | with_reducible rfl)); try simp only [Act.put, p1q, p2q, p3q, p4q, p5q, p6q])
        refine tkEnd ?_
        refine runT 9 13 (by kernel_rfl) rfl rfl (by rfl) (by rfl) (fun KK hK => ?_) (fun KK hK => ?_)
        · go_simp
          go_at_call 50
          refine (HSET.out _).mono ?_
          rintro x1 w5 ⟨rfl, hb5⟩
          have HB5 : Hid (Below wx.heap.size wx w5) := (below_drG (Below.refl _ _)).trans hb5
          have HE85 := keepG (HE8.out.below HB5.out HE8.out.lt)
          have HE25 := keepG (HE2.out.below HB5.out HE2.out.lt)
          have HBX5 : Hid (Below n8 wr w5) := HBX.out.trans (HB5.out.mono (by omega))
          have hs5 := HRW.out w5 HBX5.out (k + 1) t HTK.out
          go_simp
          refine hK.out _ _ ⟨enAt HE85.out, hs5⟩ (fun hHeld => ?_)
          clear hK KK hb5
          try simp only [Act.put, p1q, p2q, p3q, p4q, p5q, p6q]
          refine tkGo [10, 11, 12] ?_
          repeat (refine tkO (v := ?_) rfl ?_ ?_; rotate_left; (intro wy hSw; (try dsimp only at hSw); go_simp; (first | done | with_reducible rfl)); try simp only [Act.put, p1q, p2q, p3q, p4q, p5q, p6q])
          refine tkEnd ?_
          obtain ⟨X6, Y6, HX6, HY6, HP6, HP6', HB6⟩ := new_en w5 e'
          have HX6 := HX6.out
          dsimp only [enC, En.nil] at HX6
          have HX6 := keepG HX6
          have HBX6 : Hid (Below n8 wr Y6) := HBX5.out.trans (HB6.out.mono (by have := HB5.out.size; omega))
          have HX6b : Hid (Below n8 wr X6) := HBX5.out.trans ((below_of_alloc HX6.out).mono (by have := HB5.out.size; omega))
          have HEA8 := keepG (HE85.out.below HB6.out HE85.out.lt)
          have HEA2 := keepG (HE25.out.below HB6.out HE25.out.lt)
          have HEX8 := keepG (HE85.out.below (below_of_alloc HX6.out) HE85.out.lt)
          have HEA11 := HP6'
          have HBA := HBX6
          refine runO 13 (by kernel_rfl) rfl (by rfl) (fun KK hK => ?_)
          go_simp
          try rw [HX6.out]
          refine hK.out _ _ ⟨enAt HEX8.out, HRW.out X6 HX6b.out (k + 1) t HTK.out⟩ (fun hHeld => ?_)
          clear hK KK
          try simp only [Act.put, p1q, p2q, p3q, p4q, p5q, p6q]
          refine runO 14 (by kernel_rfl) rfl (by rfl) (fun KK hK => ?_)
          refine wp_store_mid 36 (.tmp 11) (.tmp 90) rfl w5.heap.size 0 (enC e').toArray rfl rfl (thereEn HP6.out) (sizeEnA _) (oneEn _) ?_
          rw [HY6.out]
          refine hK.out _ _ ⟨enAt HEA8.out, HRW.out Y6 HBX6.out (k + 1) t HTK.out⟩ (fun hHeld => ?_)
          clear hK KK
          try simp only [Act.put, p1q, p2q, p3q, p4q, p5q, p6q]
          refine tkGo [15] ?_
          repeat (refine tkO (v := ?_) rfl ?_ ?_; rotate_left; (intro wy hSw; (try dsimp only at hSw); go_simp; (first | done | with_reducible rfl)); try simp only [Act.put, p1q, p2q, p3q, p4q, p5q, p6q])
          refine tkEnd ?_
          refine wpAnyH_done (by kernel_rfl) ?_ _
          cases b
          · have HE : Hid (restE l f ts e1 = none) := by show _ = _; rw [HRE.out, HGO.out]; rfl
            obtain ⟨U, HU, H5, HBU⟩ : ∃ U, Hid (Y6.setCells n2 0 (enC e).toArray.toList = U) ∧ Hid (Hp U n2 36 (enC e)) ∧ Hid (Below n2 wr U) := ⟨_, rfl, setsEn e HEA2.out, (HBA.out.mono (by omega)).trans (grown_to_below (grown_sets n2 (enC e).toArray.toList _ 0) (Nat.le_refl _) (by have := HBA.out.size; omega))⟩
            go_wp2_with (first
              | ((with_reducible refine wpList_load_mid ?_ 36 (.tmp 8) ?_ n8 0 ?_ (enC e) _ (enAt HEA8.out) Tryd.underlying36 ?_ (sizeEn _) ?_); rfl; rfl; rfl; rfl)
              | ((with_reducible refine wpList_store_mid ?_ 36 (.tmp 2) (.tmp 94) ?_ n2 0 (enC e).toArray ?_ ?_ (thereEn HEA2.out) (sizeEnA _) (oneEn _) ?_); rfl; rfl; rfl; rfl)
              | (rw [HU.out]))
            exact ⟨e, false, rfl, rfl, rfl, H5.out, ⟨by rw [HE.out]; rfl, fun q hq => by rw [HE.out] at hq; cases hq⟩, HBU.out⟩
          · obtain ⟨U, HU, H5, H52, HBU⟩ : ∃ U, Hid (Y6.setCells n8 0 (enC e').toArray.toList = U) ∧ Hid (Hp U n8 36 (enC e')) ∧ Hid (Hp U n2 36 (enC En.nil)) ∧ Hid (Below n8 wr U) := ⟨_, rfl, setsEn e' HEA8.out, HEA2.out.fars (by omega) _ 0, HBA.out.trans (grown_to_below (grown_sets n8 (enC e').toArray.toList _ 0) (Nat.le_refl _) (by have := HBA.out.size; omega))⟩
            go_wp2_with (first
              | ((with_reducible refine wpList_load_mid ?_ 36 (.tmp 11) ?_ w5.heap.size 0 ?_ (enC e') _ (enAt HEA11.out) Tryd.underlying36 ?_ (sizeEn _) ?_); rfl; rfl; rfl; rfl)
              | ((with_reducible refine wpList_store_mid ?_ 36 (.tmp 8) (.tmp 95) ?_ n8 0 (enC e').toArray ?_ ?_ (thereEn HEA8.out) (sizeEnA _) (oneEn _) ?_); rfl; rfl; rfl; rfl)
              | (rw [HU.out]))
            go_roundw
            case rel => exact ⟨k + 1, e', by omega, by go_num, HGO.out, HEW2.out, H5.out, H52.out, HBU.out⟩
            case measure => simp [intOf]; omega
        · go_simp
          obtain ⟨X6, HX6, HP6, HX6b0⟩ : ∃ X6, Hid ((wx.alloc (.cells (enC En.nil).toArray 36)).drew = X6) ∧ Hid (Hp X6 wx.heap.size 36 (enC En.nil)) ∧ Hid (Below wx.heap.size wx X6) := ⟨_, rfl, (Hp.new wx _ _).drew, below_drG (below_allocG wx _)⟩
          have HX6 := HX6.out
          dsimp only [enC, En.nil] at HX6
          have HX6 := keepG HX6
          have HX6c : Hid (Below n8 wr X6) := HBX.out.trans (HX6b0.out.mono (by omega))
          have HEX8 := keepG (HE8.out.below HX6b0.out HE8.out.lt)
          have HEX2 := keepG (HE2.out.below HX6b0.out HE2.out.lt)
          try rw [HX6.out]
          refine hK.out _ _ ⟨enAt HEX8.out, HRW.out X6 HX6c.out (k + 1) t HTK.out⟩ (fun hHeld => ?_)
          clear hK KK
          try simp only [Act.put, p1q, p2q, p3q, p4q, p5q, p6q]
          refine runO 9 (by kernel_rfl) rfl (by rfl) (fun KK hK => ?_)
          go_simp
          go_at_call 50
          refine (HSET.out _).mono ?_
          rintro x1 w5 ⟨rfl, hb5⟩
          have hz6 := HX6b0.out.size
          have HB5 := keepG hb5
          have HE85 := keepG (HEX8.out.below HB5.out HEX8.out.lt)
          have HE25 := keepG (HEX2.out.below HB5.out HEX2.out.lt)
          have HP65 := keepG (HP6.out.below HB5.out HP6.out.lt)
          have HBX5 : Hid (Below n8 wr w5) := HX6c.out.trans (HB5.out.mono (by omega))
          go_simp
          refine hK.out _ _ ⟨enAt HE85.out, HRW.out w5 HBX5.out (k + 1) t HTK.out⟩ (fun hHeld => ?_)
          clear hK KK hb5
          try simp only [Act.put, p1q, p2q, p3q, p4q, p5q, p6q]
          refine tkGo [10, 11, 12] ?_
          repeat (refine tkO (v := ?_) rfl ?_ ?_; rotate_left; (intro wy hSw; (try dsimp only at hSw); go_simp; (first | done | with_reducible rfl)); try simp only [Act.put, p1q, p2q, p3q, p4q, p5q, p6q])
          refine tkEnd ?_
          obtain ⟨Y7, HY7, HEA11, HEA8, HEA2, HBA⟩ : ∃ Y7, Hid (w5.setCells wx.heap.size 0 (enC e').toArray.toList = Y7) ∧ Hid (Hp Y7 wx.heap.size 36 (enC e')) ∧ Hid (Hp Y7 n8 36 (enC e)) ∧ Hid (Hp Y7 n2 36 (enC En.nil)) ∧ Hid (Below n8 wr Y7) := ⟨_, rfl, setsEn e' HP65.out, HE85.out.fars (by omega) _ 0, HE25.out.fars (by omega) _ 0, HBX5.out.trans (grown_to_below (grown_sets wx.heap.size (enC e').toArray.toList _ 0) (by omega) (by have := HBX5.out.size; omega))⟩
          refine runO 14 (by kernel_rfl) rfl (by rfl) (fun KK hK => ?_)
          refine wp_store_mid 36 (.tmp 11) (.tmp 90) rfl wx.heap.size 0 (enC e').toArray rfl rfl (thereEn HP65.out) (sizeEnA _) (oneEn _) ?_
          rw [HY7.out]
          refine hK.out _ _ ⟨enAt HEA8.out, HRW.out Y7 HBA.out (k + 1) t HTK.out⟩ (fun hHeld => ?_)
          clear hK KK
          try simp only [Act.put, p1q, p2q, p3q, p4q, p5q, p6q]
          refine tkGo [15] ?_
          repeat (refine tkO (v := ?_) rfl ?_ ?_; rotate_left; (intro wy hSw; (try dsimp only at hSw); go_simp; (first | done | with_reducible rfl)); try simp only [Act.put, p1q, p2q, p3q, p4q, p5q, p6q])
          refine tkEnd ?_
          refine wpAnyH_done (by kernel_rfl) ?_ _
          cases b
          · have HE : Hid (restE l f ts e1 = none) := by show _ = _; rw [HRE.out, HGO.out]; rfl
            obtain ⟨U, HU, H5, HBU⟩ : ∃ U, Hid (Y7.setCells n2 0 (enC e).toArray.toList = U) ∧ Hid (Hp U n2 36 (enC e)) ∧ Hid (Below n2 wr U) := ⟨_, rfl, setsEn e HEA2.out, (HBA.out.mono (by omega)).trans (grown_to_below (grown_sets n2 (enC e).toArray.toList _ 0) (Nat.le_refl _) (by have := HBA.out.size; omega))⟩
            go_wp2_with (first
              | ((with_reducible refine wpList_load_mid ?_ 36 (.tmp 8) ?_ n8 0 ?_ (enC e) _ (enAt HEA8.out) Tryd.underlying36 ?_ (sizeEn _) ?_); rfl; rfl; rfl; rfl)
              | ((with_reducible refine wpList_store_mid ?_ 36 (.tmp 2) (.tmp 94) ?_ n2 0 (enC e).toArray ?_ ?_ (thereEn HEA2.out) (sizeEnA _) (oneEn _) ?_); rfl; rfl; rfl; rfl)
              | (rw [HU.out]))
            exact ⟨e, false, rfl, rfl, rfl, H5.out, ⟨by rw [HE.out]; rfl, fun q hq => by rw [HE.out] at hq; cases hq⟩, HBU.out⟩
          · obtain ⟨U, HU, H5, H52, HBU⟩ : ∃ U, Hid (Y7.setCells n8 0 (enC e').toArray.toList = U) ∧ Hid (Hp U n8 36 (enC e')) ∧ Hid (Hp U n2 36 (enC En.nil)) ∧ Hid (Below n8 wr U) := ⟨_, rfl, setsEn e' HEA8.out, HEA2.out.fars (by omega) _ 0, HBA.out.trans (grown_to_below (grown_sets n8 (enC e').toArray.toList _ 0) (Nat.le_refl _) (by have := HBA.out.size; omega))⟩
            go_wp2_with (first
              | ((with_reducible refine wpList_load_mid ?_ 36 (.tmp 11) ?_ wx.heap.size 0 ?_ (enC e') _ (enAt HEA11.out) Tryd.underlying36 ?_ (sizeEn _) ?_); rfl; rfl; rfl; rfl)
              | ((with_reducible refine wpList_store_mid ?_ 36 (.tmp 8) (.tmp 95) ?_ n8 0 (enC e').toArray ?_ ?_ (thereEn HEA8.out) (sizeEnA _) (oneEn _) ?_); rfl; rfl; rfl; rfl)
              | (rw [HU.out]))
            go_roundw
            case rel => exact ⟨k + 1, e', by omega, by go_num, HGO.out, HEW2.out, H5.out, H52.out, HBU.out⟩
            case measure => simp [intOf]; omega
      · obtain rfl : k = f.length := by omega
        have HGE : Hid (goE e1 f ts = some e) := by show _ = _; rw [HG.out, List.drop_length]; rfl
        have HRZ : Hid (restE l f ts e1 = if lineE e = l then some e else none) := by show _ = _; rw [HRE.out, HGE.out]
        have HLN := keepG (line26 e HEW.out wx.drew)
        obtain ⟨L, HL⟩ : ∃ L, Hid (lineE e = L) := ⟨_, rfl⟩
        have hLl : L.length ≤ 331 := by rw [← HL.out]; exact lineE_len e
        rw [HL.out] at HLN HRZ
        obtain ⟨ok, HOKB⟩ : ∃ ok, Hid ((L == l) = ok) := ⟨_, rfl⟩
        have hokb := HOKB.out
        go_wp2
        refine wp_region_held_drew (S := fun w' => w'.rangeAt n8 0 (enC e)) (by kernel_rfl) (enAt HE8.out) (fun hHeld => ?_)
        refine wpAnyH_take (i := 0) rfl (by kernel_rfl) (by kernel_rfl) (by kernel_rfl) (fun _ _ _ h => h) (yieldsIf_load_mid (by rfl) _ _ rfl _ _ rfl (enC e) _ (fun w h => h) Tryd.underlying36 rfl (sizeEn e)) (by assumption) ?_
        try simp only [Act.put, p1q, p2q, p3q, p4q, p5q, p6q]
        refine wpAnyH_take (i := 1) rfl (by kernel_rfl) (by kernel_rfl) (by kernel_rfl) (fun _ _ _ h => h) (yieldsIf_load_mid (by rfl) _ _ rfl _ _ rfl (enC e) _ (fun w h => h) Tryd.underlying36 rfl (sizeEn e)) (by assumption) ?_
        try simp only [Act.put, p1q, p2q, p3q, p4q, p5q, p6q]
        refine tkGo [3] ?_
        repeat (refine tkO (v := ?_) rfl ?_ ?_; rotate_left; (intro wy hSw; (try dsimp only at hSw); go_simp; (first | done | with_reducible rfl)); try simp only [Act.put, p1q, p2q, p3q, p4q, p5q, p6q])
        refine tkEnd ?_
        refine runO 2 (by kernel_rfl) rfl (by rfl) (fun KK hK => ?_)
        go_simp
        go_at_call 28
        refine HLN.out.mono ?_
        rintro x1 w5 ⟨rfl, hb5⟩
        have HB5 : Hid (Below wx.heap.size wx w5) := (below_drG (Below.refl _ _)).trans hb5
        have HE85 := keepG (HE8.out.below HB5.out HE8.out.lt)
        have HE25 := keepG (HE2.out.below HB5.out HE2.out.lt)
        have HBX5 : Hid (Below n8 wr w5) := HBX.out.trans (HB5.out.mono (by omega))
        go_simp
        refine hK.out _ _ (enAt HE85.out) (fun hHeld => ?_)
        clear hK KK hb5 HLN
        try simp only [Act.put, p1q, p2q, p3q, p4q, p5q, p6q]
        refine tkGo [4] ?_
        repeat (refine tkO (v := ?_) rfl ?_ ?_; rotate_left; (intro wy hSw; (try dsimp only at hSw); go_simp; (first | done | with_reducible rfl)); try simp only [Act.put, p1q, p2q, p3q, p4q, p5q, p6q])
        refine tkEnd ?_
        obtain ⟨U, HU, H5, H58, HBU⟩ : ∃ U, Hid (w5.setCells n2 0 (enC e).toArray.toList = U) ∧ Hid (Hp U n2 36 (enC e)) ∧ Hid (Hp U n8 36 (enC e)) ∧ Hid (Below n2 wr U) := ⟨_, rfl, setsEn e HE25.out, HE85.out.fars (by omega) _ 0, (HBX5.out.mono (by omega)).trans (grown_to_below (grown_sets n2 (enC e).toArray.toList _ 0) (Nat.le_refl _) (by have := HBX5.out.size; omega))⟩
        refine runO 5 (by kernel_rfl) rfl (by rfl) (fun KK hK => ?_)
        refine wp_store_mid 36 (.tmp 2) (.tmp 96) rfl n2 0 (enC e).toArray rfl rfl (thereEn HE25.out) (sizeEnA _) (oneEn _) ?_
        rw [HU.out]
        refine hK.out _ _ (enAt H58.out) (fun hHeld => ?_)
        clear hK KK
        try simp only [Act.put, p1q, p2q, p3q, p4q, p5q, p6q]
        refine tkGo [6] ?_
        repeat (refine tkO (v := ?_) rfl ?_ ?_; rotate_left; (intro wy hSw; (try dsimp only at hSw); go_simp; (first | done | with_reducible rfl)); try simp only [Act.put, p1q, p2q, p3q, p4q, p5q, p6q])
        refine tkEnd ?_
        refine wpAnyH_done (by kernel_rfl) ?_ _
        have HF : Hid (ok = (restE l f ts e1).isSome ∧ ∀ q, restE l f ts e1 = some q → q = e) := by
          show _ ∧ _
          rw [HRZ.out]
          by_cases g : L = l
          · rw [if_pos g]
            have h := HOKB.out
            rw [g] at h
            refine ⟨by rw [← h]; simp, fun q hq => ?_⟩
            injection hq with hq
            exact hq.symm
          · rw [if_neg g]
            have h := HOKB.out
            rw [beq_eq_false_iff_ne.2 g] at h
            exact ⟨by rw [← h]; rfl, fun q hq => by cases hq⟩
        go_wp2
        exact ⟨e, ok, rfl, rfl, rfl, H5.out, HF.out, HBU.out⟩
end Go.Proofs.YtbfbfbbpajaclaaDoor
