/-
  R26D
  T26N
-/
import Derived.Test.YtbfbfbbpajaclaaDoorMB0
import Derived.Test.YtbfbfbbpajaclaaDoorMB22
import Derived.Test.YtbfbfbbpajaclaaDoorMB19
/-
  What the document's Line does: the mark's name, and each field's word. Condition: the entry's fields are of their kinds.
-/
namespace Go.Proofs.YtbfbfbbpajaclaaDoor
open Go.RowKit
set_option linter.unusedVariables false
set_option linter.unusedSimpArgs false
set_option maxRecDepth 100000
theorem enAt {w : World} {n : Nat} {e : En} (h : Hp w n 36 (enC e)) : w.rangeAt n 0 (enC e) := h.range (fun j _ => by rw [Nat.zero_add])
theorem sizeEn (e : En) : (Tryd.prog.info? 36).map (·.size) = some (enC e).length := by rw [enC_len]; kernel_rfl
theorem nmT_len : ∀ k : Fin 18, (nmT.getD k.val []).length ≤ 8 := by decide +kernel
theorem nmE_len (m : Int) : (nmE m).length ≤ 8 := by
  unfold nmE
  split
  · rename_i h
    exact nmT_len ⟨m.toNat, by omega⟩
  · simp
theorem resL_len (o : Bool) : (resL o).length ≤ 5 := by cases o <;> simp [resL]
theorem fldL_len (m : Int) (o : Bool) : (fldL m o).length ≤ 14 := by
  have := resL_len o
  unfold fldL
  by_cases h : m = 1
  · rw [if_pos h]; simp <;> omega
  rw [if_neg h]; clear h
  by_cases h : m = 2
  · rw [if_pos h]; simp <;> omega
  rw [if_neg h]; clear h
  by_cases h : m = 3
  · rw [if_pos h]; simp <;> omega
  rw [if_neg h]; clear h
  by_cases h : m = 4
  · rw [if_pos h]; simp <;> omega
  rw [if_neg h]; clear h
  by_cases h : m = 5 ∨ m = 10
  · rw [if_pos h]; simp <;> omega
  rw [if_neg h]; clear h
  by_cases h : m = 6
  · rw [if_pos h]; simp <;> omega
  rw [if_neg h]; clear h
  by_cases h : m = 7 ∨ m = 8
  · rw [if_pos h]; simp <;> omega
  rw [if_neg h]; clear h
  by_cases h : m = 9
  · rw [if_pos h]; simp <;> omega
  rw [if_neg h]; clear h
  by_cases h : m = 11
  · rw [if_pos h]; simp <;> omega
  rw [if_neg h]; clear h
  by_cases h : m = 12 ∨ m = 13
  · rw [if_pos h]; simp <;> omega
  rw [if_neg h]; clear h
  by_cases h : m = 16
  · rw [if_pos h]; simp <;> omega
  rw [if_neg h]; clear h
  by_cases h : m = 17
  · rw [if_pos h]; simp <;> omega
  rw [if_neg h]; clear h
  simp
theorem wdE_len (e : En) (c : UInt8) : (wdE e c).length ≤ 23 := by
  have h1 := digF_len 20 (unE e c.toNat).1.toNat
  have h2 := numL_len (sgE e c.toNat)
  unfold wdE
  split <;> simp <;> omega
theorem take_more {α : Type} (f : List α) {k : Nat} (hk : k < f.length) {c : α} (hc : f[k] = c) : f.take (k + 1) = f.take k ++ [c] := by
  rw [List.take_add_one, List.getElem?_eq_getElem hk, hc]; rfl
theorem str_one {f : List UInt8} {k : Nat} (hk : k < f.length) {c : UInt8} (hc : f[k] = c) : (str f).extract k (k + 1) = str [c] := by
  rw [str_cut, List.drop_eq_getElem_cons hk, hc, show k + 1 - k = 1 by omega]
  rfl
set_option maxHeartbeats 6400000 in
theorem line26 (e : En) (hw : e.wf) (w : World) : Calls Tryd.prog 28 #[enV e] w fun r w' => r = .returned (.string (str (lineE e))) ∧ Below w.heap.size w w' := by
  obtain ⟨X, HX, HP, HB⟩ := box_en w e
  have HX := HX.out
  dsimp only [enC] at HX
  have HX := keepG HX
  have q0 := HP.out.cell (j := 0) rfl
  have q17 := HP.out.cell (j := 17) rfl
  obtain ⟨f, HF⟩ : ∃ f, Hid (fldL e.wh e.ou = f) := ⟨_, rfl⟩
  have hfl : f.length ≤ 14 := by rw [← HF.out]; exact fldL_len _ _
  obtain ⟨nm, HN⟩ : ∃ nm, Hid (nmE e.wh = nm) := ⟨_, rfl⟩
  have hnl : nm.length ≤ 8 := by rw [← HN.out]; exact nmE_len _
  have hbox := HP.out.lt
  unfold enV
  go_enter Tryd.func28, Tryd.ntmps28
  go_wp2_with (first
    | (rw [HX.out])
    | (go_at_call 10; go_must (refine (rname26 e.wh _).mono ?_); rintro e1 w1 ⟨rfl, hb1⟩; go_must (rw [HN.out]; have HP1 := keepG (HP.out.below hb1 hbox); have HB1 := keepG (HB.out.trans (hb1.mono HB.out.size)); clear q0 q17; have q0 := HP1.out.cell (j := 0) rfl; have q17 := HP1.out.cell (j := 17) rfl; clear hb1))
    | (go_at_call 20; go_must (refine (fields26 e.wh e.ou _).mono ?_); rintro e1 w2 ⟨rfl, rfl⟩; go_must (rw [HF.out])))
  clear q0 q17
  go_loopw [3, 5] (fun s i wr => ∃ (k : Nat) (acc : List UInt8), k ≤ f.length ∧ i = .int .i64 k ∧ s = .string (str acc) ∧ acc.length ≤ 8 + k * 23 ∧ Hid (acc = nm ++ (f.take k).flatMap (wdE e) ∧ Hp wr w.heap.size 36 (enC e) ∧ Below w.heap.size w wr)) (fun _ i _ => f.length - (intOf i).toNat)
  case atStart => exact ⟨0, nm, by omega, rfl, rfl, by omega, by simp, HP1.out, HB1.out⟩
  case round =>
    rename World => wr
    obtain ⟨k, acc, hk, rfl, rfl, hal, HI⟩ := hrel
    by_cases hlt : k < f.length
    · obtain ⟨c, hc, HT⟩ : ∃ c, (str f)[k]'(hlt) = c ∧ Hid (f.take (k + 1) = f.take k ++ [c]) := ⟨_, rfl, take_more f hlt rfl⟩
      have hx : (str f).extract k (k + 1) = str [c] := str_one hlt hc
      have hcb : c.toNat < 256 := UInt8.toNat_lt c
      have HR := keepG (enAt HI.out.2.1)
      have HU := keepG (unsigned26 e c.toNat wr.drew hcb)
      have hmul : k * 23 ≤ 322 := by omega
      have HA : Hid (acc ++ wdE e c = nm ++ (f.take (k + 1)).flatMap (wdE e)) := by show _ = _; rw [HT.out, HI.out.1, List.flatMap_append, List.append_assoc]; simp
      obtain ⟨⟨u, b⟩, HUE⟩ : ∃ q, Hid (unE e c.toNat = q) := ⟨_, rfl⟩
      rw [HUE.out] at HU
      have hub := hw.un c.toNat
      rw [HUE.out] at hub
      obtain ⟨n, rfl⟩ : ∃ n : Nat, u = n := ⟨u.toNat, by omega⟩
      have hn64 : n < 18446744073709551616 := by omega
      go_wp2
      refine wp_region_held_drew (S := fun w' => w'.rangeAt w.heap.size 0 (enC e)) (by kernel_rfl) HR.out (fun hHeld => ?_)
      refine wpAnyH_take (i := 0) rfl (by kernel_rfl) (by kernel_rfl) (by kernel_rfl) (fun _ _ _ h => h) (yieldsIf_load_mid (by rfl) _ _ rfl _ _ rfl (enC e) _ (fun w h => h) Tryd.underlying36 rfl (sizeEn e)) (by assumption) ?_
      try simp only [Act.put, p1q, p2q, p3q, p4q, p5q, p6q]
      refine tkGo [1, 2, 3] ?_
      repeat (refine tkO (v := ?_) rfl ?_ ?_; rotate_left; (intro wy hSw; (try dsimp only at hSw); go_simp; (first | done | with_reducible rfl)); try simp only [Act.put, p1q, p2q, p3q, p4q, p5q, p6q])
      refine tkEnd ?_
      refine runO 4 (by kernel_rfl) rfl (by rfl) (fun KK hK => ?_)
      go_simp
      go_at_call 21
      refine HU.out.mono ?_
      rintro e1 w4 ⟨rfl, hb4⟩
      have HP4 := keepG (HI.out.2.1.below ((below_drG (Below.refl _ _)).trans hb4) HI.out.2.1.lt)
      have HB4 := keepG (HI.out.2.2.trans (((below_drG (Below.refl _ _)).trans hb4).mono HI.out.2.2.size))
      have HR4 := keepG (enAt HP4.out)
      go_simp
      refine hK.out _ _ HR4.out (fun hHeld => ?_)
      clear hK KK hb4 HU
      try simp only [Act.put, p1q, p2q, p3q, p4q, p5q, p6q]
      refine tkGo [5, 6, 7, 8, 9] ?_
      repeat (refine tkO (v := ?_) rfl ?_ ?_; rotate_left; (intro wy hSw; (try dsimp only at hSw); go_simp; (first | done | with_reducible rfl)); try simp only [Act.put, p1q, p2q, p3q, p4q, p5q, p6q])
      refine tkEnd ?_
      refine wpAnyH_done (by kernel_rfl) ?_ _
      obtain ⟨acc2, HA2⟩ : ∃ a, Hid (acc ++ [32] ++ [c] = a) := ⟨acc ++ [32] ++ [c], rfl⟩
      have hs2 : str acc ++ (⟨#[32]⟩ : ByteArray) ++ str [c] = str acc2 := by rw [← HA2.out, show (⟨#[32]⟩ : ByteArray) = str [32] from rfl, str_app, str_app]
      have hl2 : acc2.length ≤ 10 + k * 23 := by rw [← HA2.out]; simp; omega
      cases b
      · have HS := keepG (signed26 e c.toNat w4.drew hcb)
        have hsi := hw.si c.toNat
        have hnl2 := numL_len (sgE e c.toNat)
        have HWD : Hid (wdE e c = 32 :: c :: numL (sgE e c.toNat)) := by show _ = _; unfold wdE; rw [HUE.out]; rfl
        go_wp2
        refine wp_region_held_drew (S := fun w' => w'.rangeAt w.heap.size 0 (enC e)) (by kernel_rfl) HR4.out (fun hHeld => ?_)
        refine tkGo [0] ?_
        repeat (refine tkO (v := ?_) rfl ?_ ?_; rotate_left; (intro wy hSw; (try dsimp only at hSw); go_simp; (first | done | with_reducible rfl)); try simp only [Act.put, p1q, p2q, p3q, p4q, p5q, p6q])
        refine tkEnd ?_
        refine wpAnyH_take (i := 1) rfl (by kernel_rfl) (by kernel_rfl) (by kernel_rfl) (fun _ _ _ h => h) (yieldsIf_load_mid (by rfl) _ _ rfl _ _ rfl (enC e) _ (fun w h => h) Tryd.underlying36 rfl (sizeEn e)) (by assumption) ?_
        try simp only [Act.put, p1q, p2q, p3q, p4q, p5q, p6q]
        refine tkGo [2, 3, 4] ?_
        repeat (refine tkO (v := ?_) rfl ?_ ?_; rotate_left; (intro wy hSw; (try dsimp only at hSw); go_simp; (first | done | with_reducible rfl)); try simp only [Act.put, p1q, p2q, p3q, p4q, p5q, p6q])
        refine tkEnd ?_
        refine runO 5 (by kernel_rfl) rfl (by rfl) (fun KK hK => ?_)
        go_simp
        go_at_call 23
        refine HS.out.mono ?_
        rintro e1 w5 ⟨rfl, hb5⟩
        have HP5 := keepG (HP4.out.below ((below_drG (Below.refl _ _)).trans hb5) HP4.out.lt)
        have HB5 := keepG (HB4.out.trans (((below_drG (Below.refl _ _)).trans hb5).mono HB4.out.size))
        have HR5 := keepG (enAt HP5.out)
        go_simp
        refine hK.out _ _ HR5.out (fun hHeld => ?_)
        clear hK KK hb5 HS
        try simp only [Act.put, p1q, p2q, p3q, p4q, p5q, p6q]
        refine runO 6 (by kernel_rfl) rfl (by rfl) (fun KK hK => ?_)
        go_simp
        go_at_call 43
        refine (number_any_l (sgE e c.toNat) _ hsi).mono ?_
        rintro e1 w6 ⟨rfl, rfl⟩
        go_simp
        refine hK.out _ _ HR5.out (fun hHeld => ?_)
        clear hK KK
        try simp only [Act.put, p1q, p2q, p3q, p4q, p5q, p6q]
        have hcat : ¬ (9223372036854775807 < acc2.length + (numL (sgE e c.toNat)).length) := by omega
        refine runO 7 (by kernel_rfl) rfl (by rfl) (fun KK hK => ?_)
        go_simp
        refine hK.out _ _ HR5.out (fun hHeld => ?_)
        clear hK KK
        try simp only [Act.put, p1q, p2q, p3q, p4q, p5q, p6q]
        refine tkGo [8] ?_
        repeat (refine tkO (v := ?_) rfl ?_ ?_; rotate_left; (intro wy hSw; (try dsimp only at hSw); go_simp; (first | done | with_reducible rfl)); try simp only [Act.put, p1q, p2q, p3q, p4q, p5q, p6q])
        refine tkEnd ?_
        refine wpAnyH_done (by kernel_rfl) ?_ _
        go_wp2
        go_roundw
        case rel => exact ⟨k + 1, acc2 ++ numL (sgE e c.toNat), by omega, by go_num, by rw [str_app], by simp; omega, by rw [← HA.out, HWD.out, ← HA2.out]; simp, HP5.out, HB5.out⟩
        case measure => simp [intOf]; omega
      · have hdl := digF_len 20 n
        have HWD : Hid (wdE e c = 32 :: c :: digF 20 n) := by show _ = _; unfold wdE; rw [HUE.out]; rfl
        go_wp2_with (first
          | (go_at_call 42; go_must (refine (digits26 n _ hn64).mono ?_); rintro e1 w6 ⟨rfl, rfl⟩))
        go_roundw
        case rel => exact ⟨k + 1, acc2 ++ digF 20 n, by omega, by go_num, by rw [str_app], by simp; omega, by rw [← HA.out, HWD.out, ← HA2.out]; simp, HP4.out, HB4.out⟩
        case measure => simp [intOf]; omega
    · obtain rfl : k = f.length := by omega
      have HE : Hid (lineE e = acc) := by show _ = _; unfold lineE; rw [HN.out, HF.out, HI.out.1, List.take_length]
      have HB7 := keepG HI.out.2.2
      go_wp2
      go_ret
      exact ⟨rets (by rw [HE.out]), HB7.out⟩
end Go.Proofs.YtbfbfbbpajaclaaDoor
/-
  What the landed Name, lettersOf and find do: a mark's name, its letters, the first mark of a name. No condition.
-/
namespace Go.Proofs.YtbfbfbbpajaclaaDoor
open Go.RowKit
set_option linter.unusedVariables false
set_option linter.unusedSimpArgs false
set_option maxRecDepth 100000
/-- The letters of a mark's line, but those of an eviction. -/
def ltE (m : Int) : List UInt8 := if 1 ≤ m ∧ m ≤ 17 then fldL m false else []
theorem mark_cases (m : Int) : (∃ k : Fin 17, m = (k.val : Int) + 1) ∨ (¬ (1 ≤ m ∧ m ≤ 17) ∧ (m == 1) = false ∧ (m == 2) = false ∧ (m == 3) = false ∧ (m == 4) = false ∧ (m == 5) = false ∧ (m == 6) = false ∧ (m == 7) = false ∧ (m == 8) = false ∧ (m == 9) = false ∧ (m == 10) = false ∧ (m == 11) = false ∧ (m == 12) = false ∧ (m == 13) = false ∧ (m == 14) = false ∧ (m == 15) = false ∧ (m == 16) = false ∧ (m == 17) = false) := by
  by_cases h : 1 ≤ m ∧ m ≤ 17
  · exact .inl ⟨⟨(m - 1).toNat, by omega⟩, by simp; omega⟩
  · refine .inr ⟨h, ?_⟩
    refine ⟨?_, ?_, ?_, ?_, ?_, ?_, ?_, ?_, ?_, ?_, ?_, ?_, ?_, ?_, ?_, ?_, ?_⟩ <;> (simp; omega)
set_option maxHeartbeats 6400000 in
theorem lname26 (m : Int) (w : World) : Calls Tryd.prog 9 #[.int .i64 m] w fun e w' => e = .returned (.string (str (nmE m))) ∧ w = w' := by
  rcases mark_cases m with ⟨k, rfl⟩ | ⟨h, e1, e2, e3, e4, e5, e6, e7, e8, e9, e10, e11, e12, e13, e14, e15, e16, e17⟩
  · rcases k with ⟨k, hk⟩
    have : k = 0 ∨ k = 1 ∨ k = 2 ∨ k = 3 ∨ k = 4 ∨ k = 5 ∨ k = 6 ∨ k = 7 ∨ k = 8 ∨ k = 9 ∨ k = 10 ∨ k = 11 ∨ k = 12 ∨ k = 13 ∨ k = 14 ∨ k = 15 ∨ k = 16 := by omega
    rcases this with rfl | rfl | rfl | rfl | rfl | rfl | rfl | rfl | rfl | rfl | rfl | rfl | rfl | rfl | rfl | rfl | rfl
    all_goals
      go_enter Tryd.func9, Tryd.ntmps9
      go_wp2
      go_ret
      exact ⟨rfl, rfl⟩
  · have HE : Hid (nmE m = []) := by show _ = _; unfold nmE; rw [if_neg h]
    clear h
    go_enter Tryd.func9, Tryd.ntmps9
    go_wp2
    go_ret
    exact ⟨rets (by rw [HE.out]), rfl⟩
set_option maxHeartbeats 6400000 in
theorem lof26 (m : Int) (w : World) : Calls Tryd.prog 54 #[.int .i64 m] w fun e w' => e = .returned (.string (str (ltE m))) ∧ w = w' := by
  rcases mark_cases m with ⟨k, rfl⟩ | ⟨h, e1, e2, e3, e4, e5, e6, e7, e8, e9, e10, e11, e12, e13, e14, e15, e16, e17⟩
  · rcases k with ⟨k, hk⟩
    have : k = 0 ∨ k = 1 ∨ k = 2 ∨ k = 3 ∨ k = 4 ∨ k = 5 ∨ k = 6 ∨ k = 7 ∨ k = 8 ∨ k = 9 ∨ k = 10 ∨ k = 11 ∨ k = 12 ∨ k = 13 ∨ k = 14 ∨ k = 15 ∨ k = 16 := by omega
    rcases this with rfl | rfl | rfl | rfl | rfl | rfl | rfl | rfl | rfl | rfl | rfl | rfl | rfl | rfl | rfl | rfl | rfl
    all_goals
      go_enter Tryd.func54, Tryd.ntmps54
      go_wp2
      go_ret
      exact ⟨rfl, rfl⟩
  · have HE : Hid (ltE m = []) := by show _ = _; unfold ltE; rw [if_neg h]
    clear h
    go_enter Tryd.func54, Tryd.ntmps54
    go_wp2
    go_ret
    exact ⟨rets (by rw [HE.out]), rfl⟩
theorem reti26 {a b : Int} (h : a = b) : Ending.returned (.int .i64 a) = .returned (.int .i64 b) := by rw [h]
/-- The first mark of a name, 0 if there is none. -/
def findE (n0 : List UInt8) : Int := match markF n0 1 17 with | none => 0 | some m => (m : Int)
set_option maxHeartbeats 1600000 in
theorem lfind26 (n0 : List UInt8) (w : World) : Calls Tryd.prog 47 #[.string (str n0)] w fun e w' => e = .returned (.int .i64 (findE n0)) ∧ w = w' := by
  go_enter Tryd.func47, Tryd.ntmps47
  go_wp2
  go_loop [3] (fun i => ∃ k : Nat, 1 ≤ k ∧ k ≤ 18 ∧ i = .int .i64 k ∧ Hid (markF n0 1 17 = markF n0 k (18 - k))) (fun i => 18 - (intOf i).toNat)
  case atStart => exact ⟨1, by omega, by omega, rfl, rfl⟩
  case round =>
    obtain ⟨k, hk1, hk, rfl, HG⟩ := hrel
    by_cases hlt : k < 18
    · have hltI : (k : Int) < 18 := by omega
      have HM : Hid (markF n0 1 17 = if nmE k = n0 then some k else markF n0 (k + 1) (18 - (k + 1))) := by
        show _ = _
        rw [HG.out, show 18 - k = (18 - (k + 1)) + 1 by omega]
        rfl
      by_cases he : nmE k = n0
      · have HE : Hid (findE n0 = k) := by show _ = _; unfold findE; rw [HM.out, if_pos he]
        have hq : (nmE k == n0) = true := by rw [he]; simp
        clear he HM HG
        go_wp2_with (go_at_call 9; go_must (refine (lname26 k _).mono ?_); rintro e1 w1 ⟨rfl, rfl⟩)
        go_ret
        exact ⟨reti26 HE.out.symm, rfl⟩
      · have HN : Hid (markF n0 1 17 = markF n0 (k + 1) (18 - (k + 1))) := by show _ = _; rw [HM.out, if_neg he]
        have hq : (nmE k == n0) = false := by simp [he]
        clear he HM HG
        go_wp2_with (go_at_call 9; go_must (refine (lname26 k _).mono ?_); rintro e1 w1 ⟨rfl, rfl⟩)
        go_roundw
        case rel => exact ⟨k + 1, by omega, by omega, by go_num, HN.out⟩
        case measure => simp [intOf]; omega
    · obtain rfl : k = 18 := by omega
      have HE : Hid (findE n0 = 0) := by show _ = _; unfold findE; rw [HG.out]; rfl
      go_wp2
      go_ret
      exact ⟨reti26 HE.out.symm, rfl⟩
end Go.Proofs.YtbfbfbbpajaclaaDoor
