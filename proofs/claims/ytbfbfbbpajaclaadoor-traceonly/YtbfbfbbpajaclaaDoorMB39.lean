
/-
  What the landed read does: a line's plain entry, or none. Condition: the listed variables read as they are laid; the line is no greater than a string may be.
-/
import Derived.Test.YtbfbfbbpajaclaaDoorMB37
import Derived.Test.YtbfbfbbpajaclaaDoorMB38
namespace Go.Proofs.YtbfbfbbpajaclaaDoor
open Go.RowKit
set_option linter.unusedVariables false
set_option linter.unusedSimpArgs false
set_option maxRecDepth 100000
theorem cut_below (l : List UInt8) (c : UInt8) (w : World) (hl : l.length ≤ 140737488355328) : Calls Tryd.prog 30 #[.string (str l), .string (str [c])] w fun e w' => e = .returned (.tuple #[.string (str (cutL c l).1), .string (str (cutL c l).2.1), .bool (cutL c l).2.2]) ∧ Below w.heap.size w w' := by
  refine (cut_any l c w hl).mono ?_
  rintro e w' ⟨he, n, rfl⟩
  exact ⟨he, below_drewN (Below.refl _ _) n⟩
/-- What read answers. -/
def readV26 (o : Option En) : Value := match o with | none => .tuple #[enV En.nil, .bool false] | some e => .tuple #[enV e, .bool true]
/-- A box of zeros, and what is laid into it. -/
theorem new_box26 (w : World) (e : En) : ∃ X Y, Hid (w.alloc (.cells (enC En.nil).toArray 36) = X) ∧ Hid (X.setCells w.heap.size 0 (enC e).toArray.toList = Y) ∧ Hid (Hp X w.heap.size 36 (enC En.nil)) ∧ Hid (Hp Y w.heap.size 36 (enC e)) ∧ Hid (Below w.heap.size w Y) := by
  have h1 := Hp.new w (enC En.nil) 36
  refine ⟨_, _, rfl, rfl, h1, setsEn e h1, ?_⟩
  exact (below_allocG w _).trans (grown_to_below (grown_sets w.heap.size (enC e).toArray.toList _ 0) (Nat.le_refl _) (by simp))
theorem enc79 : Utf8.encode ((((⟨#[79, 86]⟩ : ByteArray)[0]'(by decide)).toNat : Nat) : Int) = str [79] := by kernel_rfl
set_option maxHeartbeats 6400000 in
theorem lread26 (l : List UInt8) (w : World) (h : Laid w) (hl : l.length ≤ 140737488355328) : Calls Tryd.prog 31 #[.string (str l)] w fun r w' => r = .returned (readV26 (readE l)) ∧ Below w.heap.size w w' := by
  obtain ⟨X, HX, HPX, HBX⟩ := box_en w En.nil
  have HX := HX.out
  dsimp only [enC, En.nil] at HX
  have HX := keepG HX
  have HL : Hid (Laid w) := h
  have HLS := keepG (loose_start l)
  obtain ⟨n0, b0, ok0, HC, hn0, hb0⟩ : ∃ n0 b0 ok0, Hid (cutL 32 l = (n0, b0, ok0)) ∧ n0.length ≤ 140737488355328 ∧ b0.length ≤ 140737488355328 := ⟨_, _, _, rfl, Nat.le_trans (cutL_len 32 l).1 hl, Nat.le_trans (cutL_len 32 l).2 hl⟩
  rw [HC.out] at HLS
  simp only at HLS
  obtain ⟨m, HM⟩ : ∃ m, Hid (findE n0 = m) := ⟨_, rfl⟩
  obtain ⟨o, HO⟩ : ∃ o, Hid (b0.contains 79 = o) := ⟨_, rfl⟩
  rw [HM.out, HO.out] at HLS
  obtain ⟨f, HF, hfl⟩ : ∃ f, Hid (ltrE (startM m o) = f) ∧ f.length ≤ 14 := ⟨_, rfl, ltrE_len _⟩
  have HMEM : Hid (∀ c ∈ f, c ∈ allL ∧ c ≠ 32) := by
    show ∀ c ∈ f, _
    rw [← HF.out]
    exact fun c hc => ltrE_mem hc
  rw [HF.out] at HLS
  have HEND : Hid (∀ cur behind, Loose l m o [] f cur behind → readE l = if plainE cur = true ∧ lineE cur = l then some cur else none) := by
    show ∀ cur behind, _
    intro cur behind hlo
    rw [← HF.out] at hlo
    exact loose_end hlo
  have E79 := keepG enc79
  clear h
  go_enter Tryd.func31, Tryd.ntmps31
  go_wp2_with (first
    | (rw [HX.out])
    | (go_at_call 30; go_must (refine (cut_below l 32 _ hl).mono ?_); rintro e1 w1 ⟨rfl, hb1⟩; go_must (rw [HC.out]; have HP1 : Hid (Hp w1 w.heap.size 36 (enC En.nil)) := HPX.out.below hb1 HPX.out.lt; have HB1 : Hid (Below w.heap.size w w1) := HBX.out.trans (hb1.mono HBX.out.size); clear hb1))
    | (go_at_call 47; go_must (refine (lfind26 n0 _).mono ?_); rintro e1 w2 ⟨rfl, rfl⟩; go_must (rw [HM.out]; obtain ⟨A, B, HA, HB, HPA, HPB, HBB⟩ := new_box26 w1 (startM m false); have HA := HA.out; dsimp only [enC, En.nil] at HA; have HA := keepG HA))
    | (rw [HA.out])
    | ((with_reducible refine wpList_store_mid ?_ 36 (.tmp 7) (.tmp 21) ?_ w1.heap.size 0 (enC (startM m false)).toArray ?_ ?_ (thereEn HPA.out) (sizeEnA _) (oneEn _) ?_); rfl; rfl; rfl; rfl)
    | (rw [show A.setCells w1.heap.size 0 (enC (startM m false)) = B from HB.out])
    | (rw [HB.out])
    | (go_at_call 48; go_must (rw [E79.out]); go_must (refine (hasb26 b0 79 _).mono ?_); rintro e1 w3 ⟨rfl, rfl⟩; go_must (rw [HO.out]; obtain ⟨C, HCC, HPC, HBC⟩ : ∃ C, Hid (B.setCell ⟨w1.heap.size, 17, none⟩ (.bool o) = C) ∧ Hid (Hp C w1.heap.size 36 (enC (startM m o))) ∧ Hid (Below w1.heap.size w1 C) := ⟨_, rfl, HPB.out.set 17 (.bool o), HBB.out.trans (grown_to_below (grown_set B w1.heap.size 17 (.bool o)) (Nat.le_refl _) HBB.out.size)⟩; have c17 := HPB.out.cell (j := 17) rfl; have f17 := HPB.out.frozen 17))
    | (rw [HCC.out])
    | ((with_reducible refine wpList_load_mid ?_ 36 (.tmp 7) ?_ w1.heap.size 0 ?_ (enC (startM m o)) _ (enAt HPC.out) Tryd.underlying36 ?_ (sizeEn _) ?_); rfl; rfl; rfl; rfl)
    | (go_at_call 39; go_must (refine (lltr26 (startM m o) _).mono ?_); rintro e1 w4 ⟨rfl, hb4⟩; go_must (rw [HF.out]; clear c17 f17; obtain ⟨cap, Z, hcv, HBZ, HBA, HZS⟩ := bytes26 f w4; have HP4 : Hid (Hp w4 w1.heap.size 36 (enC (startM m o))) := HPC.out.below hb4 HPC.out.lt; have hnb := HP4.out.lt; have HPZ : Hid (Hp Z w1.heap.size 36 (enC (startM m o))) := HP4.out.below HBZ.out HP4.out.lt; have HW1 : Hid (Below w1.heap.size w1 Z) := (HBC.out.trans (hb4.mono HBC.out.size)).trans (HBZ.out.mono (HBC.out.trans (hb4.mono HBC.out.size)).size); have HPXZ : Hid (Hp Z w.heap.size 36 (enC En.nil)) := HP1.out.below HW1.out HP1.out.lt; have HWZ : Hid (Below w.heap.size w Z) := HB1.out.trans (HW1.out.mono HB1.out.size); have hn1 := HP1.out.lt; clear hb4)))
  generalize w1.heap.size = n1 at *
  generalize w4.heap.size = nb at *
  clear hcv HA HB HPA HPB HBB HCC HPC HBC HBZ HZS HP1 HB1 HP4 HW1
  go_loopw [5, 32] (fun s i wr => ∃ (k : Nat) (behind : List UInt8) (cur : En), k ≤ f.length ∧ i = .int .i64 k ∧ s = .string (str behind) ∧ behind.length ≤ 140737488355328 ∧ Hid (Loose l m o (f.drop k) (f.take k) cur behind) ∧ Hid (Hp wr n1 36 (enC cur)) ∧ Hid (BytesAt wr nb f) ∧ Hid (Hp wr w.heap.size 36 (enC En.nil)) ∧ Hid (Below w.heap.size w wr)) (fun _ i _ => f.length - (intOf i).toNat)
  case atStart => exact ⟨0, b0, startM m o, by omega, rfl, rfl, hb0, HLS.out, HPZ.out, HBA.out, HPXZ.out, HWZ.out⟩
  case round =>
    rename World => wr
    obtain ⟨k, behind, cur, hk, rfl, rfl, hbl, HLO, HPR, HBR, HPN, HBW⟩ := hrel
    clear HLS HPZ HBA HPXZ HWZ
    have HLr : Hid (Laid wr) := laid_keeps _ _ HL.out HBW.out
    by_cases hlt : k < f.length
    · obtain ⟨c, hc⟩ : ∃ c, f[k]? = some c := ⟨_, List.getElem?_eq_getElem hlt⟩
      have HCA : Hid (c ∈ allL) := (HMEM.out c (List.mem_of_getElem? hc)).1
      have HCB : Hid (c ≠ 32) := (HMEM.out c (List.mem_of_getElem? hc)).2
      have hcell := HBR.out.cell hc
      have hconv := conv26 c HCA.out
      have HT : Hid (f.take (k + 1) = f.take k ++ [c]) := by show _ = _; rw [List.take_add_one, hc]; rfl
      have HD : Hid (f.drop k = c :: f.drop (k + 1)) := by
        show _ = _
        have := (List.getElem?_eq_some_iff.1 hc).2
        rw [List.drop_eq_getElem_cons hlt, this]
      have hcb : c.toNat < 256 := UInt8.toNat_lt c
      obtain ⟨wd, rst, ok1, HC1, hwd, hrst⟩ : ∃ wd rst ok1, Hid (cutL 32 behind = (wd, rst, ok1)) ∧ wd.length ≤ 140737488355328 ∧ rst.length ≤ 140737488355328 := ⟨_, _, _, rfl, Nat.le_trans (cutL_len 32 behind).1 hbl, Nat.le_trans (cutL_len 32 behind).2 hbl⟩
      have htl := Nat.le_trans (trim_len wd c) hwd
      have HNX : Hid (∀ q n, Got (trimE wd c) q n → Loose l m o (f.drop (k + 1)) (f.take (k + 1)) (putE cur c.toNat q n) rst) := by
        show ∀ q n, _
        intro q n hg
        have h := HLO.out
        rw [HD.out] at h
        have hs := loose_step h HCA.out HCB.out (k := q) (n := n) (by rw [HC1.out]; exact hg)
        rw [HC1.out, ← HT.out] at hs
        exact hs
      clear hc HLO
      go_wp2_with (first
        | (go_at_call 30; go_must (refine (cut_below behind 32 _ hbl).mono ?_); rintro e1 w5 ⟨rfl, hb5⟩; go_must (rw [HC1.out]; have HP5 : Hid (Hp w5 n1 36 (enC cur)) := HPR.out.below hb5 HPR.out.lt; have HB5 : Hid (BytesAt w5 nb f) := HBR.out.below hb5 HBR.out.lt; have HN5 : Hid (Hp w5 w.heap.size 36 (enC En.nil)) := HPN.out.below hb5 HPN.out.lt; have HW5 : Hid (Below w.heap.size w w5) := HBW.out.trans (hb5.mono HBW.out.size); have HL5 : Hid (Laid w5) := laid_keeps _ _ HL.out HW5.out; clear hb5 hcell))
        | (go_at_call 49; go_must (refine (trim_any wd c _).mono ?_); rintro e1 w6 ⟨rfl, rfl⟩)
        | (go_at_call 44; go_must (refine (llay26 cur c HCA.out n1 (trimE wd c) _ HL5.out HP5.out htl).mono ?_); rintro e1 w7 ⟨rfl, q, n, HG, HP7, HC7⟩; go_must (have HB7 : Hid (BytesAt w7 nb f) := HB5.out.chg HC7.out (fun e' => by have e' : nb = n1 := e'; omega); have HN7 : Hid (Hp w7 w.heap.size 36 (enC En.nil)) := HN5.out.chg HC7.out (fun e' => by have e' : w.heap.size = n1 := e'; omega); have HW7 : Hid (Below w.heap.size w w7) := HW5.out.trans (HC7.out.below (fun x hx => by have hx : x = n1 := hx; omega) HW5.out.size))))
      go_roundw
      case rel => exact ⟨k + 1, rst, putE cur c.toNat q n, by omega, by go_num, rfl, hrst, HNX.out q n HG.out, HP7.out, HB7.out, HN7.out, HW7.out⟩
      case measure => simp [intOf]; omega
    · obtain rfl : k = f.length := by omega
      have HLE : Hid (Loose l m o [] f cur behind) := by have h := HLO.out; rw [List.drop_length, List.take_length] at h; exact h
      have HR : Hid (readE l = if plainE cur = true ∧ lineE cur = l then some cur else none) := HEND.out cur behind HLE.out
      obtain ⟨pb, HPB⟩ : ∃ pb, Hid (plainE cur = pb) := ⟨_, rfl⟩
      clear HLO
      have HX7 := HPR
      cases pb
      · have HRN : Hid (readE l = none) := by show _ = _; rw [HR.out, if_neg (by rw [HPB.out]; simp)]
        go_wp2_with (first
          | ((with_reducible refine wpList_load_mid ?_ 36 (.tmp 7) ?_ n1 0 ?_ (enC cur) _ (enAt HPR.out) Tryd.underlying36 ?_ (sizeEn _) ?_); rfl; rfl; rfl; rfl)
          | (go_at_call 29; go_must (refine (lplain26 cur _ HLr.out).mono ?_); rintro e1 w5 ⟨rfl, hb5⟩; go_must (rw [HPB.out]; have HN5 : Hid (Hp w5 w.heap.size 36 (enC En.nil)) := HPN.out.below hb5 HPN.out.lt; have HW5 : Hid (Below w.heap.size w w5) := HBW.out.trans (hb5.mono HBW.out.size); obtain ⟨U, HU, HPU, HBU⟩ : ∃ U, Hid (w5.setCells w.heap.size 0 (enC En.nil).toArray.toList = U) ∧ Hid (Hp U w.heap.size 36 (enC En.nil)) ∧ Hid (Below w.heap.size w U) := ⟨_, rfl, setsEn En.nil HN5.out, HW5.out.trans (grown_to_below (grown_sets w.heap.size (enC En.nil).toArray.toList _ 0) (Nat.le_refl _) HW5.out.size)⟩; clear hb5))
          | ((with_reducible refine wpList_store_mid ?_ 36 (.tmp 2) (.tmp 59) ?_ w.heap.size 0 (enC En.nil).toArray ?_ ?_ (thereEn HN5.out) (sizeEnA _) (oneEn _) ?_); rfl; rfl; rfl; rfl)
          | (rw [HU.out]))
        refine en_ret2 (n := w.heap.size) (e := En.nil) rfl rfl rfl HPU.out ?_
        exact ⟨by rw [HRN.out]; rfl, HBU.out⟩
      · have hm := plain_mark HPB.out
        have HCW : Hid cur.wf := HLE.out.2.2.1 (by rw [← HLE.out.1]; exact hm)
        obtain ⟨ln, HLN⟩ : ∃ ln, Hid (lineE cur = ln) := ⟨_, rfl⟩
        by_cases he : ln = l
        · have HRS : Hid (readE l = some cur) := by show _ = _; rw [HR.out, if_pos ⟨HPB.out, by rw [HLN.out]; exact he⟩]
          have hq : (ln == l) = true := by rw [he]; simp
          clear he HR
          go_wp2_with (first
            | ((with_reducible refine wpList_load_mid ?_ 36 (.tmp 7) ?_ n1 0 ?_ (enC cur) _ (enAt HX7.out) Tryd.underlying36 ?_ (sizeEn _) ?_); rfl; rfl; rfl; rfl)
            | ((with_reducible refine wpList_load_on ?_ 36 (.tmp 7) ?_ n1 0 ?_ (enC cur) _ (enAt HX7.out) Tryd.underlying36 ?_ (sizeEn _) ?_); rfl; rfl; rfl; rfl)
            | (go_at_call 29; go_must (refine (lplain26 cur _ HLr.out).mono ?_); rintro e1 w5 ⟨rfl, hb5⟩; go_must (rw [HPB.out]; have HN5 : Hid (Hp w5 w.heap.size 36 (enC En.nil)) := HPN.out.below hb5 HPN.out.lt; have HW5 : Hid (Below w.heap.size w w5) := HBW.out.trans (hb5.mono HBW.out.size); have HX8 : Hid (Hp w5 n1 36 (enC cur)) := HPR.out.below hb5 HPR.out.lt; clear HX7; have HX7 := HX8; have HL5 : Hid (Laid w5) := laid_keeps _ _ HL.out HW5.out; clear hb5))
            | (go_at_call 25; go_must (refine (lline26 cur HCW.out hm _ HL5.out).mono ?_); rintro e1 w6 ⟨rfl, hb6⟩; go_must (rw [HLN.out]; have HN6 : Hid (Hp w6 w.heap.size 36 (enC En.nil)) := HN5.out.below hb6 HN5.out.lt; have HW6 : Hid (Below w.heap.size w w6) := HW5.out.trans (hb6.mono HW5.out.size); have HX9 : Hid (Hp w6 n1 36 (enC cur)) := HX8.out.below hb6 HX8.out.lt; clear HX7; have HX7 := HX9; obtain ⟨U, HU, HPU, HBU⟩ : ∃ U, Hid (w6.setCells w.heap.size 0 (enC cur).toArray.toList = U) ∧ Hid (Hp U w.heap.size 36 (enC cur)) ∧ Hid (Below w.heap.size w U) := ⟨_, rfl, setsEn cur HN6.out, HW6.out.trans (grown_to_below (grown_sets w.heap.size (enC cur).toArray.toList _ 0) (Nat.le_refl _) HW6.out.size)⟩; clear hb6))
            | ((with_reducible refine wpList_store_mid ?_ 36 (.tmp 2) (.tmp 60) ?_ w.heap.size 0 (enC cur).toArray ?_ ?_ (thereEn HN6.out) (sizeEnA _) (oneEn _) ?_); rfl; rfl; rfl; rfl)
            | (rw [show w6.setCells w.heap.size 0 (enC cur) = U from HU.out])
            | (rw [HU.out]))
          try rw [show w6.setCells w.heap.size 0 (enC cur) = U from HU.out]
          refine en_ret2 (n := w.heap.size) (e := cur) rfl rfl rfl HPU.out ?_
          exact ⟨by rw [HRS.out]; rfl, HBU.out⟩
        · have HRN : Hid (readE l = none) := by show _ = _; rw [HR.out, if_neg (fun x => he (by rw [← HLN.out]; exact x.2))]
          have hq : (ln == l) = false := by simp [he]
          clear he HR
          go_wp2_with (first
            | ((with_reducible refine wpList_load_mid ?_ 36 (.tmp 7) ?_ n1 0 ?_ (enC cur) _ (enAt HX7.out) Tryd.underlying36 ?_ (sizeEn _) ?_); rfl; rfl; rfl; rfl)
            | ((with_reducible refine wpList_load_on ?_ 36 (.tmp 7) ?_ n1 0 ?_ (enC cur) _ (enAt HX7.out) Tryd.underlying36 ?_ (sizeEn _) ?_); rfl; rfl; rfl; rfl)
            | (go_at_call 29; go_must (refine (lplain26 cur _ HLr.out).mono ?_); rintro e1 w5 ⟨rfl, hb5⟩; go_must (rw [HPB.out]; have HN5 : Hid (Hp w5 w.heap.size 36 (enC En.nil)) := HPN.out.below hb5 HPN.out.lt; have HW5 : Hid (Below w.heap.size w w5) := HBW.out.trans (hb5.mono HBW.out.size); have HX8 : Hid (Hp w5 n1 36 (enC cur)) := HPR.out.below hb5 HPR.out.lt; clear HX7; have HX7 := HX8; have HL5 : Hid (Laid w5) := laid_keeps _ _ HL.out HW5.out; clear hb5))
            | (go_at_call 25; go_must (refine (lline26 cur HCW.out hm _ HL5.out).mono ?_); rintro e1 w6 ⟨rfl, hb6⟩; go_must (rw [HLN.out]; have HN6 : Hid (Hp w6 w.heap.size 36 (enC En.nil)) := HN5.out.below hb6 HN5.out.lt; have HW6 : Hid (Below w.heap.size w w6) := HW5.out.trans (hb6.mono HW5.out.size); obtain ⟨U, HU, HPU, HBU⟩ : ∃ U, Hid (w6.setCells w.heap.size 0 (enC En.nil).toArray.toList = U) ∧ Hid (Hp U w.heap.size 36 (enC En.nil)) ∧ Hid (Below w.heap.size w U) := ⟨_, rfl, setsEn En.nil HN6.out, HW6.out.trans (grown_to_below (grown_sets w.heap.size (enC En.nil).toArray.toList _ 0) (Nat.le_refl _) HW6.out.size)⟩; clear hb6))
            | ((with_reducible refine wpList_store_mid ?_ 36 (.tmp 2) (.tmp 59) ?_ w.heap.size 0 (enC En.nil).toArray ?_ ?_ (thereEn HN6.out) (sizeEnA _) (oneEn _) ?_); rfl; rfl; rfl; rfl)
            | (rw [HU.out]))
          refine en_ret2 (n := w.heap.size) (e := En.nil) rfl rfl rfl HPU.out ?_
          exact ⟨by rw [HRN.out]; rfl, HBU.out⟩
end Go.Proofs.YtbfbfbbpajaclaaDoor
