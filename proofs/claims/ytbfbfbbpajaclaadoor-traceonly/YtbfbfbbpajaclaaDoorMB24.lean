
/-
  What the document's Plain does: whether all that an entry's line doesn't show is zero. Condition: the entry's fields are of their kinds.
-/
import Derived.Test.YtbfbfbbpajaclaaDoorMB0
import Derived.Test.YtbfbfbbpajaclaaDoorMB23
namespace Go.Proofs.YtbfbfbbpajaclaaDoor
open Go.RowKit
set_option linter.unusedVariables false
set_option linter.unusedSimpArgs false
set_option maxRecDepth 100000
theorem nmT_ne : ∀ k : Fin 17, nmT.getD (k.val + 1) [] ≠ [] := by decide +kernel
theorem nmE_ne {m : Int} (h : 1 ≤ m ∧ m ≤ 17) : nmE m ≠ [] := by
  unfold nmE
  rw [if_pos h]
  have := nmT_ne ⟨m.toNat - 1, by omega⟩
  rw [show m.toNat - 1 + 1 = m.toNat by omega] at this
  exact this
theorem all_take_no {α : Type} {p : α → Bool} {l : List α} {k : Nat} (hk : k < l.length) {c : α} (hc : l[k] = c) (h : p c = false) : l.all p = false := by
  rw [List.all_eq_false]
  exact ⟨c, by rw [← hc]; exact List.getElem_mem _, by simp [h]⟩
set_option maxHeartbeats 6400000 in
theorem plain26 (e : En) (hw : e.wf) (w : World) : Calls Tryd.prog 11 #[enV e] w fun r w' => r = .returned (.bool (plainE e)) ∧ Below w.heap.size w w' := by
  obtain ⟨X, HX, HP, HB⟩ := box_en w e
  have HX := HX.out
  dsimp only [enC] at HX
  have HX := keepG HX
  have q0 := HP.out.cell (j := 0) rfl
  have q17 := HP.out.cell (j := 17) rfl
  obtain ⟨f, HF⟩ : ∃ f, Hid (fldL e.wh e.ou = f) := ⟨_, rfl⟩
  have hfl : f.length ≤ 14 := by rw [← HF.out]; exact fldL_len _ _
  obtain ⟨nm, HN⟩ : ∃ nm, Hid (nmE e.wh = nm) := ⟨_, rfl⟩
  have hnl : nm.length ≤ 8 := by rw [← HN.out]; exact nmE_len _
  have hbox := HP.out.lt
  obtain ⟨al, HAL⟩ : ∃ al, Hid (allL = al) := ⟨allL, rfl⟩
  have hal : al.length = 20 := by rw [← HAL.out]; rfl
  have HLIT : Hid ((⟨#[116, 102, 99, 103, 101, 104, 112, 118, 97, 120, 109, 111, 121, 98, 110, 107, 119, 114, 79, 86]⟩ : ByteArray) = str al) := by show _ = _; rw [← HAL.out]; rfl
  have HPE : Hid (plainE e = (decide (1 ≤ e.wh ∧ e.wh ≤ 17) && al.all (zeroE e f) && (!e.ou || inL26 f 121))) := by show _ = _; unfold plainE; rw [HF.out, HAL.out]
  unfold enV
  by_cases hm : 1 ≤ e.wh ∧ e.wh ≤ 17
  · have hnn : nm.isEmpty = false := by rw [← HN.out]; exact List.isEmpty_eq_false_iff.2 (nmE_ne hm)
    have HMD : Hid (decide (1 ≤ e.wh ∧ e.wh ≤ 17) = true) := decide_eq_true hm
    clear hm
    go_enter Tryd.func11, Tryd.ntmps11
    go_wp2_with (first
      | (rw [HX.out])
      | (go_at_call 10; go_must (refine (rname26 e.wh _).mono ?_); rintro e1 w1 ⟨rfl, hb1⟩; go_must (rw [HN.out]; have HP1 := keepG (HP.out.below hb1 hbox); have HB1 := keepG (HB.out.trans (hb1.mono HB.out.size)); clear q0 q17; have q0 := HP1.out.cell (j := 0) rfl; have q17 := HP1.out.cell (j := 17) rfl; clear hb1))
      | (go_at_call 20; go_must (refine (fields26 e.wh e.ou _).mono ?_); rintro e1 w2 ⟨rfl, rfl⟩; go_must (rw [HF.out])))
    clear q0 q17
    rw [HLIT.out]
    go_loopw [5] (fun i wr => ∃ k : Nat, k ≤ al.length ∧ i = .int .i64 k ∧ Hid ((al.take k).all (zeroE e f) = true ∧ Hp wr w.heap.size 36 (enC e) ∧ Below w.heap.size w wr)) (fun i _ => al.length - (intOf i).toNat)
    case atStart => exact ⟨0, by omega, rfl, rfl, HP1.out, HB1.out⟩
    case round =>
      rename World => wr
      obtain ⟨k, hk, rfl, HI⟩ := hrel
      by_cases hlt : k < al.length
      · obtain ⟨c, hc, HT⟩ : ∃ c, (str al)[k]'(hlt) = c ∧ Hid (al.take (k + 1) = al.take k ++ [c]) := ⟨_, rfl, take_more al hlt rfl⟩
        have hcb : c.toNat < 256 := UInt8.toNat_lt c
        have HR := keepG (enAt HI.out.2.1)
        have HU := keepG (unsigned26 e c.toNat wr.drew hcb)
        obtain ⟨⟨u, b⟩, HUE⟩ : ∃ q, Hid (unE e c.toNat = q) := ⟨_, rfl⟩
        rw [HUE.out] at HU
        have HZE : Hid (zeroE e f c = (inL26 f c || (if b = true then u == 0 else sgE e c.toNat == 0))) := by show _ = _; unfold zeroE; rw [HUE.out]
        have HMORE : Hid (zeroE e f c = true → (al.take (k + 1)).all (zeroE e f) = true) := fun h => by rw [HT.out, List.all_append, HI.out.1, List.all_cons, h]; rfl
        have HNO : Hid (zeroE e f c = false → plainE e = false) := fun h => by rw [HPE.out, all_take_no hlt hc h]; simp
        go_wp2
        refine wp_region_held_drew (S := fun w' => w'.rangeAt w.heap.size 0 (enC e)) (by kernel_rfl) HR.out (fun hHeld => ?_)
        refine wpAnyH_take (i := 0) rfl (by kernel_rfl) (by kernel_rfl) (by kernel_rfl) (fun _ _ _ h => h) (yieldsIf_load_mid (by rfl) _ _ rfl _ _ rfl (enC e) _ (fun w h => h) Tryd.underlying36 rfl (sizeEn e)) (by assumption) ?_
        try simp only [Act.put, p1q, p2q, p3q, p4q, p5q, p6q]
        refine tkGo [1, 2, 3] ?_
        repeat (refine tkO (v := ?_) rfl ?_ ?_; rotate_left; (intro wy hSw; (try dsimp only at hSw); go_simp; (first | done | with_reducible rfl)); try simp only [Act.put, p1q, p2q, p3q, p4q, p5q, p6q])
        refine tkEnd ?_
        refine runO 4 (by kernel_rfl) rfl (by rfl) (fun KK hK => ?_)
        go_simp
        go_at_call 21
        refine HU.out.mono ?_
        rintro e1 w4 ⟨rfl, hb4⟩
        have HP4 := keepG (HI.out.2.1.below ((below_drG (Below.refl _ _)).trans hb4) HI.out.2.1.lt)
        have HB4 := keepG (HI.out.2.2.trans (((below_drG (Below.refl _ _)).trans hb4).mono HI.out.2.2.size))
        have HR4 := keepG (enAt HP4.out)
        go_simp
        refine hK.out _ _ HR4.out (fun hHeld => ?_)
        clear hK KK hb4 HU
        try simp only [Act.put, p1q, p2q, p3q, p4q, p5q, p6q]
        refine tkGo [5, 6, 7, 8, 9] ?_
        repeat (refine tkO (v := ?_) rfl ?_ ?_; rotate_left; (intro wy hSw; (try dsimp only at hSw); go_simp; (first | done | with_reducible rfl)); try simp only [Act.put, p1q, p2q, p3q, p4q, p5q, p6q])
        refine tkEnd ?_
        refine wpAnyH_done (by kernel_rfl) ?_ _
        have HRD : Hid (w4.drew.rangeAt w.heap.size 0 (enC e)) := enAt (HP4.out.below (below_drG (Below.refl _ _)) HP4.out.lt)
        have HPD := keepG (HP4.out.below (below_drG (Below.refl _ _)) HP4.out.lt)
        have HBD := keepG (HB4.out.trans ((below_drG (Below.refl _ _)).mono HB4.out.size))
        cases hin : inL26 f c
        · cases b
          · by_cases hs0 : sgE e c.toNat = 0
            · have hsb : (sgE e c.toNat != 0) = false := by rw [hs0]; rfl
              go_wp2
              refine wp_region_held_drew (S := fun w' => w'.rangeAt w.heap.size 0 (enC e)) (by kernel_rfl) HR4.out (fun hHeld => ?_)
              refine tkGo [0, 1, 2, 3] ?_
              repeat (refine tkO (v := ?_) rfl ?_ ?_; rotate_left; (intro wy hSw; (try dsimp only at hSw); go_simp; (first | done | with_reducible rfl)); try simp only [Act.put, p1q, p2q, p3q, p4q, p5q, p6q])
              refine tkEnd ?_
              refine runO 4 (by kernel_rfl) rfl (by rfl) (fun KK hK => ?_)
              go_simp
              go_at_call 22
              refine (has26 f c _ (by omega)).mono ?_
              rintro e1 w5 ⟨rfl, rfl⟩
              rw [hin]
              go_simp
              refine hK.out _ _ HRD.out (fun hHeld => ?_)
              clear hK KK
              try simp only [Act.put, p1q, p2q, p3q, p4q, p5q, p6q]
              refine tkGo [5, 6, 7, 8] ?_
              repeat (refine tkO (v := ?_) rfl ?_ ?_; rotate_left; (intro wy hSw; (try dsimp only at hSw); go_simp; (first | done | with_reducible rfl)); try simp only [Act.put, p1q, p2q, p3q, p4q, p5q, p6q])
              refine tkEnd ?_
              refine wpAnyH_take (i := 9) (v := undef) rfl (by kernel_rfl) (by kernel_rfl) (by kernel_rfl) (fun _ _ _ h => h) (Or.inr ⟨by rfl, rfl⟩) (by assumption) ?_
              try simp only [Act.put, p1q, p2q, p3q, p4q, p5q, p6q]
              refine wpAnyH_take (i := 10) (v := undef) rfl (by kernel_rfl) (by kernel_rfl) (by kernel_rfl) (fun _ _ _ h => h) (Or.inr ⟨by rfl, rfl⟩) (by assumption) ?_
              try simp only [Act.put, p1q, p2q, p3q, p4q, p5q, p6q]
              refine tkGo [11, 12, 13, 14, 15] ?_
              repeat (refine tkO (v := ?_) rfl ?_ ?_; rotate_left; (intro wy hSw; (try dsimp only at hSw); go_simp; (first | done | with_reducible rfl)); try simp only [Act.put, p1q, p2q, p3q, p4q, p5q, p6q])
              refine tkEnd ?_
              refine wpAnyH_take (i := 16) rfl (by kernel_rfl) (by kernel_rfl) (by kernel_rfl) (fun _ _ _ h => h) (yieldsIf_load_mid (by rfl) _ _ rfl _ _ rfl (enC e) _ (fun w h => h) Tryd.underlying36 rfl (sizeEn e)) (by assumption) ?_
              try simp only [Act.put, p1q, p2q, p3q, p4q, p5q, p6q]
              refine tkGo [17, 18, 19] ?_
              repeat (refine tkO (v := ?_) rfl ?_ ?_; rotate_left; (intro wy hSw; (try dsimp only at hSw); go_simp; (first | done | with_reducible rfl)); try simp only [Act.put, p1q, p2q, p3q, p4q, p5q, p6q])
              refine tkEnd ?_
              refine runO 20 (by kernel_rfl) rfl (by rfl) (fun KK hK => ?_)
              go_simp
              go_at_call 23
              refine (signed26 e c.toNat _ hcb).mono ?_
              rintro e1 w6 ⟨rfl, hb6⟩
              have HP6 := keepG (HPD.out.below hb6 HPD.out.lt)
              have HB6 := keepG (HBD.out.trans (hb6.mono HBD.out.size))
              go_simp
              refine hK.out _ _ (enAt HP6.out) (fun hHeld => ?_)
              clear hK KK hb6
              try simp only [Act.put, p1q, p2q, p3q, p4q, p5q, p6q]
              refine tkGo [21, 22, 23, 24] ?_
              repeat (refine tkO (v := ?_) rfl ?_ ?_; rotate_left; (intro wy hSw; (try dsimp only at hSw); go_simp; (first | done | with_reducible rfl)); try simp only [Act.put, p1q, p2q, p3q, p4q, p5q, p6q])
              refine tkEnd ?_
              refine wpAnyH_done (by kernel_rfl) ?_ _
              go_wp2
              go_roundw
              case rel => exact ⟨k + 1, by omega, by go_num, HMORE.out (by rw [HZE.out, hin, hs0]; rfl), HP6.out, HB6.out⟩
              case measure => simp [intOf]; omega
            · have hsb : (sgE e c.toNat != 0) = true := by simpa using hs0
              go_wp2
              refine wp_region_held_drew (S := fun w' => w'.rangeAt w.heap.size 0 (enC e)) (by kernel_rfl) HR4.out (fun hHeld => ?_)
              refine tkGo [0, 1, 2, 3] ?_
              repeat (refine tkO (v := ?_) rfl ?_ ?_; rotate_left; (intro wy hSw; (try dsimp only at hSw); go_simp; (first | done | with_reducible rfl)); try simp only [Act.put, p1q, p2q, p3q, p4q, p5q, p6q])
              refine tkEnd ?_
              refine runO 4 (by kernel_rfl) rfl (by rfl) (fun KK hK => ?_)
              go_simp
              go_at_call 22
              refine (has26 f c _ (by omega)).mono ?_
              rintro e1 w5 ⟨rfl, rfl⟩
              rw [hin]
              go_simp
              refine hK.out _ _ HRD.out (fun hHeld => ?_)
              clear hK KK
              try simp only [Act.put, p1q, p2q, p3q, p4q, p5q, p6q]
              refine tkGo [5, 6, 7, 8] ?_
              repeat (refine tkO (v := ?_) rfl ?_ ?_; rotate_left; (intro wy hSw; (try dsimp only at hSw); go_simp; (first | done | with_reducible rfl)); try simp only [Act.put, p1q, p2q, p3q, p4q, p5q, p6q])
              refine tkEnd ?_
              refine wpAnyH_take (i := 9) (v := undef) rfl (by kernel_rfl) (by kernel_rfl) (by kernel_rfl) (fun _ _ _ h => h) (Or.inr ⟨by rfl, rfl⟩) (by assumption) ?_
              try simp only [Act.put, p1q, p2q, p3q, p4q, p5q, p6q]
              refine wpAnyH_take (i := 10) (v := undef) rfl (by kernel_rfl) (by kernel_rfl) (by kernel_rfl) (fun _ _ _ h => h) (Or.inr ⟨by rfl, rfl⟩) (by assumption) ?_
              try simp only [Act.put, p1q, p2q, p3q, p4q, p5q, p6q]
              refine tkGo [11, 12, 13, 14, 15] ?_
              repeat (refine tkO (v := ?_) rfl ?_ ?_; rotate_left; (intro wy hSw; (try dsimp only at hSw); go_simp; (first | done | with_reducible rfl)); try simp only [Act.put, p1q, p2q, p3q, p4q, p5q, p6q])
              refine tkEnd ?_
              refine wpAnyH_take (i := 16) rfl (by kernel_rfl) (by kernel_rfl) (by kernel_rfl) (fun _ _ _ h => h) (yieldsIf_load_mid (by rfl) _ _ rfl _ _ rfl (enC e) _ (fun w h => h) Tryd.underlying36 rfl (sizeEn e)) (by assumption) ?_
              try simp only [Act.put, p1q, p2q, p3q, p4q, p5q, p6q]
              refine tkGo [17, 18, 19] ?_
              repeat (refine tkO (v := ?_) rfl ?_ ?_; rotate_left; (intro wy hSw; (try dsimp only at hSw); go_simp; (first | done | with_reducible rfl)); try simp only [Act.put, p1q, p2q, p3q, p4q, p5q, p6q])
              refine tkEnd ?_
              refine runO 20 (by kernel_rfl) rfl (by rfl) (fun KK hK => ?_)
              go_simp
              go_at_call 23
              refine (signed26 e c.toNat _ hcb).mono ?_
              rintro e1 w6 ⟨rfl, hb6⟩
              have HP6 := keepG (HPD.out.below hb6 HPD.out.lt)
              have HB6 := keepG (HBD.out.trans (hb6.mono HBD.out.size))
              go_simp
              refine hK.out _ _ (enAt HP6.out) (fun hHeld => ?_)
              clear hK KK hb6
              try simp only [Act.put, p1q, p2q, p3q, p4q, p5q, p6q]
              refine tkGo [21, 22, 23, 24] ?_
              repeat (refine tkO (v := ?_) rfl ?_ ?_; rotate_left; (intro wy hSw; (try dsimp only at hSw); go_simp; (first | done | with_reducible rfl)); try simp only [Act.put, p1q, p2q, p3q, p4q, p5q, p6q])
              refine tkEnd ?_
              refine wpAnyH_done (by kernel_rfl) ?_ _
              have HE := keepG (HNO.out (by rw [HZE.out, hin]; simpa using hs0))
              go_wp2
              go_ret
              exact ⟨retb26 HE.out.symm, HB6.out⟩
          · by_cases hu0 : u = 0
            · have hub : (u != 0) = false := by rw [hu0]; rfl
              go_wp2
              refine wp_region_held_drew (S := fun w' => w'.rangeAt w.heap.size 0 (enC e)) (by kernel_rfl) HR4.out (fun hHeld => ?_)
              refine tkGo [0, 1, 2, 3] ?_
              repeat (refine tkO (v := ?_) rfl ?_ ?_; rotate_left; (intro wy hSw; (try dsimp only at hSw); go_simp; (first | done | with_reducible rfl)); try simp only [Act.put, p1q, p2q, p3q, p4q, p5q, p6q])
              refine tkEnd ?_
              refine runO 4 (by kernel_rfl) rfl (by rfl) (fun KK hK => ?_)
              go_simp
              go_at_call 22
              refine (has26 f c _ (by omega)).mono ?_
              rintro e1 w5 ⟨rfl, rfl⟩
              rw [hin]
              go_simp
              refine hK.out _ _ HRD.out (fun hHeld => ?_)
              clear hK KK
              try simp only [Act.put, p1q, p2q, p3q, p4q, p5q, p6q]
              refine tkGo [5, 6, 7, 8, 9, 10, 11, 12, 13, 14, 15] ?_
              repeat (refine tkO (v := ?_) rfl ?_ ?_; rotate_left; (intro wy hSw; (try dsimp only at hSw); go_simp; (first | done | with_reducible rfl)); try simp only [Act.put, p1q, p2q, p3q, p4q, p5q, p6q])
              refine tkEnd ?_
              refine wpAnyH_take (i := 16) (v := undef) rfl (by kernel_rfl) (by kernel_rfl) (by kernel_rfl) (fun _ _ _ h => h) (Or.inr ⟨by rfl, rfl⟩) (by assumption) ?_
              try simp only [Act.put, p1q, p2q, p3q, p4q, p5q, p6q]
              refine wpAnyH_take (i := 17) (v := undef) rfl (by kernel_rfl) (by kernel_rfl) (by kernel_rfl) (fun _ _ _ h => h) (Or.inr ⟨by rfl, rfl⟩) (by assumption) ?_
              try simp only [Act.put, p1q, p2q, p3q, p4q, p5q, p6q]
              refine wpAnyH_take (i := 18) (v := undef) rfl (by kernel_rfl) (by kernel_rfl) (by kernel_rfl) (fun _ _ _ h => h) (Or.inr ⟨by rfl, rfl⟩) (by assumption) ?_
              try simp only [Act.put, p1q, p2q, p3q, p4q, p5q, p6q]
              refine wpAnyH_take (i := 19) (v := undef) rfl (by kernel_rfl) (by kernel_rfl) (by kernel_rfl) (fun _ _ _ h => h) (Or.inr ⟨by rfl, rfl⟩) (by assumption) ?_
              try simp only [Act.put, p1q, p2q, p3q, p4q, p5q, p6q]
              refine wpAnyH_take (i := 20) (v := undef) rfl (by kernel_rfl) (by kernel_rfl) (by kernel_rfl) (fun _ _ _ h => h) (Or.inr ⟨by rfl, rfl⟩) (by assumption) ?_
              try simp only [Act.put, p1q, p2q, p3q, p4q, p5q, p6q]
              refine wpAnyH_take (i := 21) (v := undef) rfl (by kernel_rfl) (by kernel_rfl) (by kernel_rfl) (fun _ _ _ h => h) (Or.inr ⟨by rfl, rfl⟩) (by assumption) ?_
              try simp only [Act.put, p1q, p2q, p3q, p4q, p5q, p6q]
              refine tkGo [22, 23, 24] ?_
              repeat (refine tkO (v := ?_) rfl ?_ ?_; rotate_left; (intro wy hSw; (try dsimp only at hSw); go_simp; (first | done | with_reducible rfl)); try simp only [Act.put, p1q, p2q, p3q, p4q, p5q, p6q])
              refine tkEnd ?_
              refine wpAnyH_done (by kernel_rfl) ?_ _
              go_wp2
              go_roundw
              case rel => exact ⟨k + 1, by omega, by go_num, HMORE.out (by rw [HZE.out, hin, hu0]; rfl), HPD.out, HBD.out⟩
              case measure => simp [intOf]; omega
            · have hub : (u != 0) = true := by simpa using hu0
              go_wp2
              refine wp_region_held_drew (S := fun w' => w'.rangeAt w.heap.size 0 (enC e)) (by kernel_rfl) HR4.out (fun hHeld => ?_)
              refine tkGo [0, 1, 2, 3] ?_
              repeat (refine tkO (v := ?_) rfl ?_ ?_; rotate_left; (intro wy hSw; (try dsimp only at hSw); go_simp; (first | done | with_reducible rfl)); try simp only [Act.put, p1q, p2q, p3q, p4q, p5q, p6q])
              refine tkEnd ?_
              refine runO 4 (by kernel_rfl) rfl (by rfl) (fun KK hK => ?_)
              go_simp
              go_at_call 22
              refine (has26 f c _ (by omega)).mono ?_
              rintro e1 w5 ⟨rfl, rfl⟩
              rw [hin]
              go_simp
              refine hK.out _ _ HRD.out (fun hHeld => ?_)
              clear hK KK
              try simp only [Act.put, p1q, p2q, p3q, p4q, p5q, p6q]
              refine tkGo [5, 6, 7, 8, 9, 10, 11, 12] ?_
              repeat (refine tkO (v := ?_) rfl ?_ ?_; rotate_left; (intro wy hSw; (try dsimp only at hSw); go_simp; (first | done | with_reducible rfl)); try simp only [Act.put, p1q, p2q, p3q, p4q, p5q, p6q])
              refine tkEnd ?_
              refine wpAnyH_take (i := 13) (v := undef) rfl (by kernel_rfl) (by kernel_rfl) (by kernel_rfl) (fun _ _ _ h => h) (Or.inr ⟨by rfl, rfl⟩) (by assumption) ?_
              try simp only [Act.put, p1q, p2q, p3q, p4q, p5q, p6q]
              refine wpAnyH_take (i := 14) (v := undef) rfl (by kernel_rfl) (by kernel_rfl) (by kernel_rfl) (fun _ _ _ h => h) (Or.inr ⟨by rfl, rfl⟩) (by assumption) ?_
              try simp only [Act.put, p1q, p2q, p3q, p4q, p5q, p6q]
              refine wpAnyH_take (i := 15) (v := undef) rfl (by kernel_rfl) (by kernel_rfl) (by kernel_rfl) (fun _ _ _ h => h) (Or.inr ⟨by rfl, rfl⟩) (by assumption) ?_
              try simp only [Act.put, p1q, p2q, p3q, p4q, p5q, p6q]
              refine wpAnyH_take (i := 16) (v := undef) rfl (by kernel_rfl) (by kernel_rfl) (by kernel_rfl) (fun _ _ _ h => h) (Or.inr ⟨by rfl, rfl⟩) (by assumption) ?_
              try simp only [Act.put, p1q, p2q, p3q, p4q, p5q, p6q]
              refine wpAnyH_take (i := 17) (v := undef) rfl (by kernel_rfl) (by kernel_rfl) (by kernel_rfl) (fun _ _ _ h => h) (Or.inr ⟨by rfl, rfl⟩) (by assumption) ?_
              try simp only [Act.put, p1q, p2q, p3q, p4q, p5q, p6q]
              refine wpAnyH_take (i := 18) (v := undef) rfl (by kernel_rfl) (by kernel_rfl) (by kernel_rfl) (fun _ _ _ h => h) (Or.inr ⟨by rfl, rfl⟩) (by assumption) ?_
              try simp only [Act.put, p1q, p2q, p3q, p4q, p5q, p6q]
              refine wpAnyH_take (i := 19) (v := undef) rfl (by kernel_rfl) (by kernel_rfl) (by kernel_rfl) (fun _ _ _ h => h) (Or.inr ⟨by rfl, rfl⟩) (by assumption) ?_
              try simp only [Act.put, p1q, p2q, p3q, p4q, p5q, p6q]
              refine wpAnyH_take (i := 20) (v := undef) rfl (by kernel_rfl) (by kernel_rfl) (by kernel_rfl) (fun _ _ _ h => h) (Or.inr ⟨by rfl, rfl⟩) (by assumption) ?_
              try simp only [Act.put, p1q, p2q, p3q, p4q, p5q, p6q]
              refine wpAnyH_take (i := 21) (v := undef) rfl (by kernel_rfl) (by kernel_rfl) (by kernel_rfl) (fun _ _ _ h => h) (Or.inr ⟨by rfl, rfl⟩) (by assumption) ?_
              try simp only [Act.put, p1q, p2q, p3q, p4q, p5q, p6q]
              refine wpAnyH_take (i := 22) (v := undef) rfl (by kernel_rfl) (by kernel_rfl) (by kernel_rfl) (fun _ _ _ h => h) (Or.inr ⟨by rfl, rfl⟩) (by assumption) ?_
              try simp only [Act.put, p1q, p2q, p3q, p4q, p5q, p6q]
              refine tkGo [23, 24] ?_
              repeat (refine tkO (v := ?_) rfl ?_ ?_; rotate_left; (intro wy hSw; (try dsimp only at hSw); go_simp; (first | done | with_reducible rfl)); try simp only [Act.put, p1q, p2q, p3q, p4q, p5q, p6q])
              refine tkEnd ?_
              refine wpAnyH_done (by kernel_rfl) ?_ _
              have HE := keepG (HNO.out (by rw [HZE.out, hin]; simpa using hu0))
              go_wp2
              go_ret
              exact ⟨retb26 HE.out.symm, HBD.out⟩
        · go_wp2
          refine wp_region_held_drew (S := fun w' => w'.rangeAt w.heap.size 0 (enC e)) (by kernel_rfl) HR4.out (fun hHeld => ?_)
          refine tkGo [0, 1, 2, 3] ?_
          repeat (refine tkO (v := ?_) rfl ?_ ?_; rotate_left; (intro wy hSw; (try dsimp only at hSw); go_simp; (first | done | with_reducible rfl)); try simp only [Act.put, p1q, p2q, p3q, p4q, p5q, p6q])
          refine tkEnd ?_
          refine runO 4 (by kernel_rfl) rfl (by rfl) (fun KK hK => ?_)
          go_simp
          go_at_call 22
          refine (has26 f c _ (by omega)).mono ?_
          rintro e1 w5 ⟨rfl, rfl⟩
          rw [hin]
          go_simp
          refine hK.out _ _ HRD.out (fun hHeld => ?_)
          clear hK KK
          try simp only [Act.put, p1q, p2q, p3q, p4q, p5q, p6q]
          refine tkGo [5, 6] ?_
          repeat (refine tkO (v := ?_) rfl ?_ ?_; rotate_left; (intro wy hSw; (try dsimp only at hSw); go_simp; (first | done | with_reducible rfl)); try simp only [Act.put, p1q, p2q, p3q, p4q, p5q, p6q])
          refine tkEnd ?_
          refine wpAnyH_take (i := 7) (v := undef) rfl (by kernel_rfl) (by kernel_rfl) (by kernel_rfl) (fun _ _ _ h => h) (Or.inr ⟨by rfl, rfl⟩) (by assumption) ?_
          try simp only [Act.put, p1q, p2q, p3q, p4q, p5q, p6q]
          refine wpAnyH_take (i := 8) (v := undef) rfl (by kernel_rfl) (by kernel_rfl) (by kernel_rfl) (fun _ _ _ h => h) (Or.inr ⟨by rfl, rfl⟩) (by assumption) ?_
          try simp only [Act.put, p1q, p2q, p3q, p4q, p5q, p6q]
          refine wpAnyH_take (i := 9) (v := undef) rfl (by kernel_rfl) (by kernel_rfl) (by kernel_rfl) (fun _ _ _ h => h) (Or.inr ⟨by rfl, rfl⟩) (by assumption) ?_
          try simp only [Act.put, p1q, p2q, p3q, p4q, p5q, p6q]
          refine wpAnyH_take (i := 10) (v := undef) rfl (by kernel_rfl) (by kernel_rfl) (by kernel_rfl) (fun _ _ _ h => h) (Or.inr ⟨by rfl, rfl⟩) (by assumption) ?_
          try simp only [Act.put, p1q, p2q, p3q, p4q, p5q, p6q]
          refine wpAnyH_take (i := 11) (v := undef) rfl (by kernel_rfl) (by kernel_rfl) (by kernel_rfl) (fun _ _ _ h => h) (Or.inr ⟨by rfl, rfl⟩) (by assumption) ?_
          try simp only [Act.put, p1q, p2q, p3q, p4q, p5q, p6q]
          refine wpAnyH_take (i := 12) (v := undef) rfl (by kernel_rfl) (by kernel_rfl) (by kernel_rfl) (fun _ _ _ h => h) (Or.inr ⟨by rfl, rfl⟩) (by assumption) ?_
          try simp only [Act.put, p1q, p2q, p3q, p4q, p5q, p6q]
          refine wpAnyH_take (i := 13) (v := undef) rfl (by kernel_rfl) (by kernel_rfl) (by kernel_rfl) (fun _ _ _ h => h) (Or.inr ⟨by rfl, rfl⟩) (by assumption) ?_
          try simp only [Act.put, p1q, p2q, p3q, p4q, p5q, p6q]
          refine wpAnyH_take (i := 14) (v := undef) rfl (by kernel_rfl) (by kernel_rfl) (by kernel_rfl) (fun _ _ _ h => h) (Or.inr ⟨by rfl, rfl⟩) (by assumption) ?_
          try simp only [Act.put, p1q, p2q, p3q, p4q, p5q, p6q]
          refine wpAnyH_take (i := 15) (v := undef) rfl (by kernel_rfl) (by kernel_rfl) (by kernel_rfl) (fun _ _ _ h => h) (Or.inr ⟨by rfl, rfl⟩) (by assumption) ?_
          try simp only [Act.put, p1q, p2q, p3q, p4q, p5q, p6q]
          refine wpAnyH_take (i := 16) (v := undef) rfl (by kernel_rfl) (by kernel_rfl) (by kernel_rfl) (fun _ _ _ h => h) (Or.inr ⟨by rfl, rfl⟩) (by assumption) ?_
          try simp only [Act.put, p1q, p2q, p3q, p4q, p5q, p6q]
          refine wpAnyH_take (i := 17) (v := undef) rfl (by kernel_rfl) (by kernel_rfl) (by kernel_rfl) (fun _ _ _ h => h) (Or.inr ⟨by rfl, rfl⟩) (by assumption) ?_
          try simp only [Act.put, p1q, p2q, p3q, p4q, p5q, p6q]
          refine wpAnyH_take (i := 18) (v := undef) rfl (by kernel_rfl) (by kernel_rfl) (by kernel_rfl) (fun _ _ _ h => h) (Or.inr ⟨by rfl, rfl⟩) (by assumption) ?_
          try simp only [Act.put, p1q, p2q, p3q, p4q, p5q, p6q]
          refine wpAnyH_take (i := 19) (v := undef) rfl (by kernel_rfl) (by kernel_rfl) (by kernel_rfl) (fun _ _ _ h => h) (Or.inr ⟨by rfl, rfl⟩) (by assumption) ?_
          try simp only [Act.put, p1q, p2q, p3q, p4q, p5q, p6q]
          refine wpAnyH_take (i := 20) (v := undef) rfl (by kernel_rfl) (by kernel_rfl) (by kernel_rfl) (fun _ _ _ h => h) (Or.inr ⟨by rfl, rfl⟩) (by assumption) ?_
          try simp only [Act.put, p1q, p2q, p3q, p4q, p5q, p6q]
          refine wpAnyH_take (i := 21) (v := undef) rfl (by kernel_rfl) (by kernel_rfl) (by kernel_rfl) (fun _ _ _ h => h) (Or.inr ⟨by rfl, rfl⟩) (by assumption) ?_
          try simp only [Act.put, p1q, p2q, p3q, p4q, p5q, p6q]
          refine wpAnyH_take (i := 22) (v := undef) rfl (by kernel_rfl) (by kernel_rfl) (by kernel_rfl) (fun _ _ _ h => h) (Or.inr ⟨by rfl, rfl⟩) (by assumption) ?_
          try simp only [Act.put, p1q, p2q, p3q, p4q, p5q, p6q]
          refine wpAnyH_take (i := 23) (v := undef) rfl (by kernel_rfl) (by kernel_rfl) (by kernel_rfl) (fun _ _ _ h => h) (Or.inr ⟨by rfl, rfl⟩) (by assumption) ?_
          try simp only [Act.put, p1q, p2q, p3q, p4q, p5q, p6q]
          refine tkGo [24] ?_
          repeat (refine tkO (v := ?_) rfl ?_ ?_; rotate_left; (intro wy hSw; (try dsimp only at hSw); go_simp; (first | done | with_reducible rfl)); try simp only [Act.put, p1q, p2q, p3q, p4q, p5q, p6q])
          refine tkEnd ?_
          refine wpAnyH_done (by kernel_rfl) ?_ _
          go_wp2
          go_roundw
          case rel => exact ⟨k + 1, by omega, by go_num, HMORE.out (by rw [HZE.out, hin]; rfl), HPD.out, HBD.out⟩
          case measure => simp [intOf]; omega
      · obtain rfl : k = al.length := by omega
        have q17 := HI.out.2.1.cell (j := 17) rfl
        have HA : Hid (al.all (zeroE e f) = true) := by have h := HI.out.1; rw [List.take_length] at h; exact h
        have HB7 := keepG HI.out.2.2
        cases hou : e.ou
        · rw [hou] at q17
          have HE : Hid (plainE e = true) := by show _ = _; rw [HPE.out, HMD.out, HA.out, hou]; rfl
          go_wp2
          go_ret
          exact ⟨retb26 HE.out.symm, HB7.out⟩
        · rw [hou] at q17
          have HE : Hid (plainE e = inL26 f 121) := by show _ = _; rw [HPE.out, HMD.out, HA.out, hou]; simp
          go_wp2_with (go_at_call 22; go_must (refine (has26 f 121 _ (by omega)).mono ?_); rintro e1 w5 ⟨rfl, rfl⟩)
          go_ret
          exact ⟨retb26 HE.out.symm, HB7.out⟩
  · have HE : Hid (plainE e = false) := by show _ = _; rw [HPE.out, decide_eq_false hm]; rfl
    have HN0 : Hid (nm = []) := by show _ = _; rw [← HN.out]; unfold nmE; rw [if_neg hm]
    clear hm
    go_enter Tryd.func11, Tryd.ntmps11
    go_wp2_with (first
      | (rw [HX.out])
      | (go_at_call 10; go_must (refine (rname26 e.wh _).mono ?_); rintro e1 w1 ⟨rfl, hb1⟩; go_must (rw [HN.out, HN0.out]; have HB1 := keepG (HB.out.trans (hb1.mono HB.out.size)); clear q0 q17 hb1)))
    go_ret
    exact ⟨retb26 HE.out.symm, HB1.out⟩
end Go.Proofs.YtbfbfbbpajaclaaDoor
