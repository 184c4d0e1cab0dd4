/-
  R26F
  R26G
  R26J
-/
import Derived.Test.YtbfbfbbpajaclaaDoorMB24
import Derived.Test.YtbfbfbbpajaclaaDoorMB21
import Derived.Test.YtbfbfbbpajaclaaDoorMB19
/-
  What the document's Print does: each entry's line and a line feed, if all are plain. Condition: the entries' fields are of their kinds, and their text is no greater than memory.
-/
namespace Go.Proofs.YtbfbfbbpajaclaaDoor
open Go.RowKit
set_option linter.unusedVariables false
set_option linter.unusedSimpArgs false
set_option maxRecDepth 100000
/-- An entry of a slice, cell by cell. -/
theorem enAt26 {w : World} {a : Option Addr} {n cap : Nat} {l : List En} (h : SeesG enC 22 En.nil w (.slice a n cap) l) {k : Nat} (hk : k < l.length) : ∃ p off, a = some ⟨p, off, none⟩ ∧ ∀ w' q, Below w.heap.size w w' → l.getD k En.nil = q → w'.rangeAt p (off + k * 22) (enC q) := by
  have hh := h
  obtain ⟨a', cap', ev, _, _, _, hat⟩ := h
  simp only [Value.slice.injEq] at ev
  obtain ⟨rfl, _, rfl⟩ := ev
  obtain ⟨p, off, rfl, hlt, hc⟩ := hat (fun e => by rw [e] at hk; simp at hk)
  refine ⟨p, off, rfl, fun w' q hb hq => ?_⟩
  subst hq
  intro j v hv
  have hj : j < 22 := (List.getElem?_eq_some_iff.1 hv).1
  rw [← hv, ← hc k hk j hj]
  exact hb.cell (p := ⟨p, off + k * 22 + j, none⟩) hlt
theorem textE_take {xs : List En} {k : Nat} (hk : k < xs.length) : textE (xs.take (k + 1)) = textE (xs.take k) ++ (lineE (xs.getD k En.nil) ++ [10]) := by
  rw [take_more xs hk rfl]
  unfold textE
  rw [List.flatMap_append]
  simp [List.getD, hk]
theorem lineE_len (e : En) : (lineE e).length ≤ 331 := by
  have h1 := nmE_len e.wh
  have h2 := fldL_len e.wh e.ou
  have h3 : ∀ f : List UInt8, (f.flatMap (wdE e)).length ≤ f.length * 23 := by
    intro f
    induction f with
    | nil => simp
    | cons c f ih => have := wdE_len e c; rw [List.flatMap_cons, List.length_append, List.length_cons]; omega
  have h4 := h3 (fldL e.wh e.ou)
  unfold lineE
  rw [List.length_append]
  omega
theorem textE_len (xs : List En) : (textE xs).length ≤ xs.length * 332 := by
  unfold textE
  induction xs with
  | nil => simp
  | cons x xs ih => have := lineE_len x; simp only [List.flatMap_cons, List.length_append, List.length_cons, List.length_nil]; omega
theorem all_take_one {α : Type} {p : α → Bool} {l : List α} {k : Nat} (hk : k < l.length) {c : α} (hc : l[k] = c) (h : (l.take k).all p = true) (h2 : p c = true) : (l.take (k + 1)).all p = true := by
  rw [take_more l hk hc, List.all_append, h]; simp [h2]
set_option maxHeartbeats 6400000 in
theorem print26 (v : Value) (xs : List En) (w : World) (hs : SeesG enC 22 En.nil w v xs) (hwf : ∀ e ∈ xs, e.wf) (hbytes : xs.length * 332 ≤ 140737488355328) : Calls Tryd.prog 13 #[v] w fun r w' => r = .returned (.tuple #[.string (str (printE xs).1), .int .i64 (printE xs).2]) ∧ Below w.heap.size w w' := by
  obtain ⟨i0, hi, hz0, hz1, hz2⟩ := info_parts Tryd.infoByte
  have HS := keepG hs
  have HW := keepG hwf
  obtain ⟨a, cap, rfl, hlc, hmx⟩ := hs.shape
  clear hs hwf
  go_enter Tryd.func13, Tryd.ntmps13
  go_wp2_with fail
  go_loopw [4, 5] (fun v i wr => ∃ k : Nat, k ≤ xs.length ∧ i = .int .i64 k ∧ Hid ((xs.take k).all plainE = true) ∧ wr.ownsRow w.heap.size 5 1 v (textE (xs.take k)).length (bytesV (textE (xs.take k))) ∧ Below w.heap.size w wr) (fun _ i _ => xs.length - (intOf i).toNat)
  case atStart => exact ⟨0, by omega, rfl, rfl, World.ownsRow_nil _ _ _ _, Below.refl _ _⟩
  case round =>
    rename World => wr
    obtain ⟨k, hk, rfl, HALL, hown, hbe⟩ := hrel
    have hsz := hbe.size
    by_cases hlt : k < xs.length
    · have hltI : (k : Int) < xs.length := by omega
      obtain ⟨p, off, ea, hat⟩ := enAt26 HS.out hlt
      subst ea
      have hmem : xs.getD k En.nil ∈ xs := by rw [List.getD_eq_getElem?_getD, List.getElem?_eq_getElem hlt]; simp
      obtain ⟨e, HE⟩ : ∃ e, Hid (xs.getD k En.nil = e) := ⟨_, rfl⟩
      have HLD : Hid (∀ w', Below w.heap.size w w' → w'.rangeAt p (off + k * 22) (enC e)) := fun w' hb => hat w' e hb HE.out
      have HR1 := keepG (HLD.out wr hbe)
      have hxk : xs[k] = e := by have h := HE.out; rw [List.getD_eq_getElem?_getD, List.getElem?_eq_getElem hlt] at h; exact h
      have HXK := keepG hxk
      rw [HE.out] at hmem
      have hew := HW.out e hmem
      have HEW := keepG hew
      have hlen := textE_len (xs.take k)
      rw [List.length_take] at hlen
      clear hat hxk hew hmem
      cases hr : plainE e
      · have HNO : Hid (printE xs = ([], 12)) := by
          show _ = _
          unfold printE
          rw [if_neg]
          rw [all_take_no hlt HXK.out hr]
          simp
        go_wp2_with (first
          | ((with_reducible refine wpList_load_mid ?_ 36 (.tmp 14) ?_ p (off + k * 22) ?_ (enC e) _ HR1.out Tryd.underlying36 ?_ (sizeEn e) ?_); rfl; rfl; rfl; rfl)
          | (go_at_call 11; go_must (refine (plain26 e HEW.out _).mono ?_); rintro e1 w5 ⟨rfl, hb5⟩; go_must (rw [hr]; have hB5 := hbe.trans (hb5.mono hsz); clear hb5)))
        go_ret2
        exact ⟨ret2si (by rw [HNO.out]) (by rw [HNO.out]), hB5⟩
      · obtain ⟨L, HL, hL80⟩ : ∃ L, Hid (lineE e = L) ∧ L.length ≤ 331 := ⟨_, rfl, lineE_len e⟩
        obtain ⟨B, HB, hBl, hown⟩ : ∃ B, Hid (textE (xs.take k) = B) ∧ B.length ≤ 140737488355328 - 332 ∧ wr.ownsRow w.heap.size 5 1 u4 B.length (bytesV B) := ⟨_, rfl, by omega, hown⟩
        have HT : Hid ((xs.take (k + 1)).all plainE = true) := all_take_one hlt HXK.out HALL.out hr
        have HP : Hid (textE (xs.take (k + 1)) = B ++ L ++ [10]) := by show _ = _; rw [textE_take hlt, HE.out, HB.out, HL.out, List.append_assoc]
        clear hlen
        go_wp2_with (first
          | ((with_reducible refine wpList_load_mid ?_ 36 (.tmp 14) ?_ p (off + k * 22) ?_ (enC e) _ HR1.out Tryd.underlying36 ?_ (sizeEn e) ?_); rfl; rfl; rfl; rfl)
          | ((with_reducible refine wpList_load_mid ?_ 36 (.tmp 21) ?_ p (off + k * 22) ?_ (enC e) _ HR5.out Tryd.underlying36 ?_ (sizeEn e) ?_); rfl; rfl; rfl; rfl)
          | (go_at_call 11; go_must (refine (plain26 e HEW.out _).mono ?_); rintro e1 w5 ⟨rfl, hb5⟩; go_must (rw [hr]; have hB5 := hbe.trans (hb5.mono hsz); have hown5 := own_below hown hb5 (Nat.le_refl _); have hz5 := hb5.size; have HR5 := keepG (HLD.out w5 hB5); clear hb5 hbe hown))
          | (go_at_call 28; go_must (refine (line26 e HEW.out _).mono ?_); rintro e1 w6 ⟨rfl, hb6⟩; go_must (rw [HL.out]; have hB6 := hB5.trans (hb6.mono (by omega)); have hown6 := own_below hown5 hb6 (Nat.le_refl _); have hz6 := hb6.size; clear hb6 hB5 hown5))
          | (at_builtin; have hq := hown6; clear hq; go_must (refine Lib.wpList_append_own_string _ rfl (.tmp 18) (.tmp 23) 62 9 rfl w.heap.size 5 i0 Tryd.underlying62 Tryd.underlying9 hi hz0 hz1 hz2 _ _ _ rfl hown6 (str L) rfl ?_ ?_ (by omega) ?_); (show B.length + L.length ≤ maxLen; unfold maxLen; omega); (show B.length + L.length ≤ 140737488355328; omega); intro v7 w7 hown7 hg7 _; go_must (rw [strCells_str, show (str L).size = L.length from rfl] at hown7; have hB7 := hB6.grown hg7 (by omega) (fun j hj => (hown6.lt j hj).1); have hz7 := hg7.size; clear hg7 hB6 hown6))
          | (at_builtin; have hq := hown7; clear hq; go_must (refine wpList_append_own _ rfl (.tmp 25) (.tmp 26) 62 rfl w.heap.size 5 i0 (.int .u8 0) 1 1 Tryd.underlying62 hi hz0 hz1 hz2 rfl (by decide) _ _ _ rfl (hown7.alloc _) ⟨_, 0, none⟩ 1 1 [.int .u8 10] rfl rfl (one_byte _ _ _ _ (by simp)) (one_cell8 _) (by unfold maxLen; omega) (by omega) (by simp; omega) ?_); intro v8 w8 hown8 hg8 _; go_must (have hB8 := (hB7.alloc (by omega) _).grown hg8 (by simp; omega) (fun j hj => (hown7.lt j hj).1); clear hg8 hB7 hown7)))
        have HO : Hid (w8.ownsRow w.heap.size 5 1 v8 (textE (xs.take (k + 1))).length (bytesV (textE (xs.take (k + 1))))) := by
          show w8.ownsRow _ _ _ _ _ _
          rw [HP.out]
          simpa [bytesV, Nat.add_assoc] using hown8
        clear hown8
        go_roundw
        case rel => exact ⟨k + 1, by omega, by go_num, HT.out, HO.out, hB8⟩
        case measure => simp [intOf]; omega
    · obtain rfl : k = xs.length := by omega
      have hall := HALL.out
      rw [List.take_length] at hall hown
      have HE : Hid (printE xs = (textE xs, 0)) := by show _ = _; unfold printE; rw [if_pos hall]
      have hcv := run_own_string (src := 62) (dst := 9) Tryd.underlying62 Tryd.underlying5 Tryd.underlying9 hown
      clear hall
      go_wp2
      go_ret2
      exact ⟨ret2si (by rw [HE.out]) (by rw [HE.out]), hbe⟩
end Go.Proofs.YtbfbfbbpajaclaaDoor
/-
  What the document's broad does: an entry with one field of 64 bits set. Condition: the letter is a byte.
-/
namespace Go.Proofs.YtbfbfbbpajaclaaDoor
open Go.RowKit
set_option linter.unusedVariables false
set_option linter.unusedSimpArgs false
set_option maxRecDepth 100000
theorem sizeEnA (e : En) : (Tryd.prog.info? 36).map (·.size) = some (enC e).toArray.size := by
  rw [show (enC e).toArray.size = 22 from rfl]; kernel_rfl
theorem oneEn (e : En) : (enC e).toArray.all (·.oneCell') = true := all_oneCell_toArray (fun v hv => by
  simp only [List.mem_cons, List.not_mem_nil, or_false] at hv
  rcases hv with rfl | rfl | rfl | rfl | rfl | rfl | rfl | rfl | rfl | rfl | rfl | rfl | rfl | rfl | rfl | rfl | rfl | rfl | rfl | rfl | rfl | rfl <;> rfl)
theorem thereEn {w : World} {n : Nat} {e e' : En} (h : Hp w n 36 (enC e)) : w.there n 0 (enC e').toArray.size := h.there (by simp)
theorem setsEn {w : World} {n : Nat} {e : En} (e' : En) (h : Hp w n 36 (enC e)) : Hp (w.setCells n 0 (enC e').toArray.toList) n 36 (enC e') := by
  have hs := h.sets (enC e') 0
  rw [splice_all (enC e') (enC e) rfl] at hs
  exact hs
theorem results_en1 {fn : Func} {p : Tmp} {ty : TypeId} (h : fn.results = #[.cell p ty]) (tmps : Array Value) (P : Program) (w : World) :
    (results fn tmps).run P w = ((asAddr (tmps.getD p undef)).run P w).andThen fun a w₁ => (loadVar ty a).run P w₁ := by
  simp only [results, h]
  simp [Sem.run_bind, Result.andThen]
theorem run_boxEn {w : World} {n : Nat} {e : En} (h : Hp w n 36 (enC e)) : (loadVar 36 ⟨n, 0, none⟩).run Tryd.prog w = .ok (enV e) w :=
  run_loadVar_mid w n 0 36 (enC e) _ (enAt h) Tryd.underlying36 rfl (sizeEn e)
theorem en_ret {fn : Func} {p : Tmp} {w2 : World} {n : Nat} {tmps : Array Value} {e : En} {Q : Ending → World → Prop} (hr : fn.results = #[.cell p 36]) (hp : tmps.getD p undef = .pointer (some ⟨n, 0, none⟩)) (hx : Hp w2 n 36 (enC e)) (hQ : Q (.returned (enV e)) w2) : bodyPost Tryd.prog fn Q .ret ⟨tmps, []⟩ w2 := by
  refine bodyPost_ret (v := enV e) ?_ rfl hQ
  rw [results_en1 hr, hp]
  simp only [asAddr, Sem.run_pure, Result.andThen]
  rw [run_boxEn hx]
/-- Two boxes: an entry's, and one of zeros. -/
theorem box_two (w : World) (e : En) : ∃ X Z, Hid (w.alloc (.cells (enC e).toArray 36) = X) ∧ Hid (X.alloc (.cells (enC En.nil).toArray 36) = Z) ∧ Hid (Hp Z w.heap.size 36 (enC e)) ∧ Hid (Hp Z (w.heap.size + 1) 36 (enC En.nil)) ∧ Hid (Below w.heap.size w Z) ∧ Hid (X.heap.size = w.heap.size + 1) := by
  have h1 := Hp.new w (enC e) 36
  have hz : (w.alloc (.cells (enC e).toArray 36)).heap.size = w.heap.size + 1 := by simp
  refine ⟨_, _, rfl, rfl, h1.alloc _, ?_, (below_allocG w _).alloc (by simp) _, hz⟩
  have h2 := Hp.new (w.alloc (.cells (enC e).toArray 36)) (enC En.nil) 36
  rw [hz] at h2
  exact h2
/-- A field of the first box set, then the whole laid into the second one. -/
theorem two_copy {w Z : World} {e e' : En} {j : Nat} {v : Value} (h1 : Hp Z w.heap.size 36 (enC e)) (h2 : Hp Z (w.heap.size + 1) 36 (enC En.nil)) (hb : Below w.heap.size w Z) (he : (enC e).set j v = enC e') : ∃ Y U, Hid (Z.setCell ⟨w.heap.size, j, none⟩ v = Y) ∧ Hid (Y.setCells (w.heap.size + 1) 0 (enC e').toArray.toList = U) ∧ Hid (Hp Y w.heap.size 36 (enC e')) ∧ Hid (Hp Y (w.heap.size + 1) 36 (enC En.nil)) ∧ Hid (Hp U (w.heap.size + 1) 36 (enC e')) ∧ Hid (Below w.heap.size w U) := by
  have hc := Chg.set Z w.heap.size j v
  have h3 := h1.set j v
  rw [he] at h3
  have h4 := h2.chg hc (fun e => by have e : w.heap.size + 1 = w.heap.size := e; omega)
  refine ⟨_, _, rfl, rfl, h3, h4, setsEn e' h4, ?_⟩
  exact (hb.trans (grown_to_below (grown_set Z w.heap.size j v) (Nat.le_refl _) hb.size)).trans (grown_to_below (grown_sets (w.heap.size + 1) (enC e').toArray.toList _ 0) (by omega) (by have := h3.lt; omega))
/-- The first box laid into the second one. -/
theorem one_copy {w Z : World} {e : En} (h1 : Hp Z w.heap.size 36 (enC e)) (h2 : Hp Z (w.heap.size + 1) 36 (enC En.nil)) (hb : Below w.heap.size w Z) : ∃ U, Hid (Z.setCells (w.heap.size + 1) 0 (enC e).toArray.toList = U) ∧ Hid (Hp U (w.heap.size + 1) 36 (enC e)) ∧ Hid (Below w.heap.size w U) := by
  refine ⟨_, rfl, setsEn e h2, ?_⟩
  exact hb.trans (grown_to_below (grown_sets (w.heap.size + 1) (enC e).toArray.toList _ 0) (by omega) hb.size)
set_option maxHeartbeats 6400000 in
theorem broad26 (e : En) (c : Nat) (n : Int) (w : World) (hc : c < 256) : Calls Tryd.prog 64 #[enV e, .int .u8 c, .int .u64 n] w fun r w' => r = .returned (enV (brE e c n)) ∧ Below w.heap.size w w' := by
  obtain ⟨X, Z, HX, HZ, H1, H2, HB, HZX⟩ := box_two w e
  have HX := HX.out
  dsimp only [enC] at HX
  have HX := keepG HX
  have HZ := HZ.out
  dsimp only [enC, En.nil] at HZ
  have HZ := keepG HZ
  have hzx := HZX.out
  unfold enV
  by_cases k0 : c = 110
  · subst k0
    obtain ⟨Y, U, HY, HU, H3, H4, H5, HBU⟩ := two_copy (e' := { e with va := n }) (j := 20) (v := .int .u64 n) H1.out H2.out HB.out rfl
    have c3 := H1.out.cell (j := 20) rfl
    have f3 := H1.out.frozen 20
    go_enter Tryd.func64, Tryd.ntmps64
    go_wp2_with (first
      | (rw [HX.out])
      | (rw [HZ.out])
      | (rw [HY.out])
      | ((with_reducible refine wpList_load_mid ?_ 36 (.tmp 3) ?_ w.heap.size 0 ?_ (enC { e with va := n }) _ (enAt H3.out) Tryd.underlying36 ?_ (sizeEn _) ?_); rfl; rfl; rfl; rfl)
      | ((with_reducible refine wpList_store_mid ?_ 36 (.tmp 6) (.tmp 37) ?_ (w.heap.size + 1) 0 (enC { e with va := n }).toArray ?_ ?_ (thereEn H4.out) (sizeEnA _) (oneEn _) ?_); rfl; rfl; rfl; rfl)
      | (rw [HU.out]))
    refine en_ret (n := w.heap.size + 1) (e := { e with va := n }) rfl rfl H5.out ?_
    exact ⟨rfl, HBU.out⟩
  have d0 : ((c : Int) == 110) = false := by simp; omega
  by_cases k1 : c = 107
  · subst k1
    obtain ⟨Y, U, HY, HU, H3, H4, H5, HBU⟩ := two_copy (e' := { e with ky := n }) (j := 12) (v := .int .u64 n) H1.out H2.out HB.out rfl
    have c3 := H1.out.cell (j := 12) rfl
    have f3 := H1.out.frozen 12
    go_enter Tryd.func64, Tryd.ntmps64
    go_wp2_with (first
      | (rw [HX.out])
      | (rw [HZ.out])
      | (rw [HY.out])
      | ((with_reducible refine wpList_load_mid ?_ 36 (.tmp 3) ?_ w.heap.size 0 ?_ (enC { e with ky := n }) _ (enAt H3.out) Tryd.underlying36 ?_ (sizeEn _) ?_); rfl; rfl; rfl; rfl)
      | ((with_reducible refine wpList_store_mid ?_ 36 (.tmp 6) (.tmp 37) ?_ (w.heap.size + 1) 0 (enC { e with ky := n }).toArray ?_ ?_ (thereEn H4.out) (sizeEnA _) (oneEn _) ?_); rfl; rfl; rfl; rfl)
      | (rw [HU.out]))
    refine en_ret (n := w.heap.size + 1) (e := { e with ky := n }) rfl rfl H5.out ?_
    exact ⟨rfl, HBU.out⟩
  have d1 : ((c : Int) == 107) = false := by simp; omega
  by_cases k2 : c = 119
  · subst k2
    obtain ⟨Y, U, HY, HU, H3, H4, H5, HBU⟩ := two_copy (e' := { e with vl := n }) (j := 13) (v := .int .u64 n) H1.out H2.out HB.out rfl
    have c3 := H1.out.cell (j := 13) rfl
    have f3 := H1.out.frozen 13
    go_enter Tryd.func64, Tryd.ntmps64
    go_wp2_with (first
      | (rw [HX.out])
      | (rw [HZ.out])
      | (rw [HY.out])
      | ((with_reducible refine wpList_load_mid ?_ 36 (.tmp 3) ?_ w.heap.size 0 ?_ (enC { e with vl := n }) _ (enAt H3.out) Tryd.underlying36 ?_ (sizeEn _) ?_); rfl; rfl; rfl; rfl)
      | ((with_reducible refine wpList_store_mid ?_ 36 (.tmp 6) (.tmp 37) ?_ (w.heap.size + 1) 0 (enC { e with vl := n }).toArray ?_ ?_ (thereEn H4.out) (sizeEnA _) (oneEn _) ?_); rfl; rfl; rfl; rfl)
      | (rw [HU.out]))
    refine en_ret (n := w.heap.size + 1) (e := { e with vl := n }) rfl rfl H5.out ?_
    exact ⟨rfl, HBU.out⟩
  have d2 : ((c : Int) == 119) = false := by simp; omega
  by_cases k3 : c = 114
  · subst k3
    obtain ⟨Y, U, HY, HU, H3, H4, H5, HBU⟩ := two_copy (e' := { e with rv := n }) (j := 16) (v := .int .u64 n) H1.out H2.out HB.out rfl
    have c3 := H1.out.cell (j := 16) rfl
    have f3 := H1.out.frozen 16
    go_enter Tryd.func64, Tryd.ntmps64
    go_wp2_with (first
      | (rw [HX.out])
      | (rw [HZ.out])
      | (rw [HY.out])
      | ((with_reducible refine wpList_load_mid ?_ 36 (.tmp 3) ?_ w.heap.size 0 ?_ (enC { e with rv := n }) _ (enAt H3.out) Tryd.underlying36 ?_ (sizeEn _) ?_); rfl; rfl; rfl; rfl)
      | ((with_reducible refine wpList_store_mid ?_ 36 (.tmp 6) (.tmp 37) ?_ (w.heap.size + 1) 0 (enC { e with rv := n }).toArray ?_ ?_ (thereEn H4.out) (sizeEnA _) (oneEn _) ?_); rfl; rfl; rfl; rfl)
      | (rw [HU.out]))
    refine en_ret (n := w.heap.size + 1) (e := { e with rv := n }) rfl rfl H5.out ?_
    exact ⟨rfl, HBU.out⟩
  have d3 : ((c : Int) == 114) = false := by simp; omega
  by_cases k4 : c = 79
  · subst k4
    obtain ⟨Y, U, HY, HU, H3, H4, H5, HBU⟩ := two_copy (e' := { e with ok := n }) (j := 18) (v := .int .u64 n) H1.out H2.out HB.out rfl
    have c3 := H1.out.cell (j := 18) rfl
    have f3 := H1.out.frozen 18
    go_enter Tryd.func64, Tryd.ntmps64
    go_wp2_with (first
      | (rw [HX.out])
      | (rw [HZ.out])
      | (rw [HY.out])
      | ((with_reducible refine wpList_load_mid ?_ 36 (.tmp 3) ?_ w.heap.size 0 ?_ (enC { e with ok := n }) _ (enAt H3.out) Tryd.underlying36 ?_ (sizeEn _) ?_); rfl; rfl; rfl; rfl)
      | ((with_reducible refine wpList_store_mid ?_ 36 (.tmp 6) (.tmp 37) ?_ (w.heap.size + 1) 0 (enC { e with ok := n }).toArray ?_ ?_ (thereEn H4.out) (sizeEnA _) (oneEn _) ?_); rfl; rfl; rfl; rfl)
      | (rw [HU.out]))
    refine en_ret (n := w.heap.size + 1) (e := { e with ok := n }) rfl rfl H5.out ?_
    exact ⟨rfl, HBU.out⟩
  have d4 : ((c : Int) == 79) = false := by simp; omega
  by_cases k5 : c = 86
  · subst k5
    obtain ⟨Y, U, HY, HU, H3, H4, H5, HBU⟩ := two_copy (e' := { e with ov := n }) (j := 19) (v := .int .u64 n) H1.out H2.out HB.out rfl
    have c3 := H1.out.cell (j := 19) rfl
    have f3 := H1.out.frozen 19
    go_enter Tryd.func64, Tryd.ntmps64
    go_wp2_with (first
      | (rw [HX.out])
      | (rw [HZ.out])
      | (rw [HY.out])
      | ((with_reducible refine wpList_load_mid ?_ 36 (.tmp 3) ?_ w.heap.size 0 ?_ (enC { e with ov := n }) _ (enAt H3.out) Tryd.underlying36 ?_ (sizeEn _) ?_); rfl; rfl; rfl; rfl)
      | ((with_reducible refine wpList_store_mid ?_ 36 (.tmp 6) (.tmp 37) ?_ (w.heap.size + 1) 0 (enC { e with ov := n }).toArray ?_ ?_ (thereEn H4.out) (sizeEnA _) (oneEn _) ?_); rfl; rfl; rfl; rfl)
      | (rw [HU.out]))
    refine en_ret (n := w.heap.size + 1) (e := { e with ov := n }) rfl rfl H5.out ?_
    exact ⟨rfl, HBU.out⟩
  have d5 : ((c : Int) == 86) = false := by simp; omega
  have HE : Hid (brE e c n = e) := by
    show _ = _
    unfold brE
    rw [if_neg k0, if_neg k1, if_neg k2, if_neg k3, if_neg k4, if_neg k5]
  clear k0 k1 k2 k3 k4 k5
  obtain ⟨U, HU, H5, HBU⟩ := one_copy H1.out H2.out HB.out
  go_enter Tryd.func64, Tryd.ntmps64
  go_wp2_with (first
    | (rw [HX.out])
    | (rw [HZ.out])
    | ((with_reducible refine wpList_load_mid ?_ 36 (.tmp 3) ?_ w.heap.size 0 ?_ (enC e) _ (enAt H1.out) Tryd.underlying36 ?_ (sizeEn _) ?_); rfl; rfl; rfl; rfl)
    | ((with_reducible refine wpList_store_mid ?_ 36 (.tmp 6) (.tmp 37) ?_ (w.heap.size + 1) 0 (enC e).toArray ?_ ?_ (thereEn H2.out) (sizeEnA _) (oneEn _) ?_); rfl; rfl; rfl; rfl)
    | (rw [HU.out]))
  refine en_ret (n := w.heap.size + 1) (e := e) rfl rfl H5.out ?_
  exact ⟨by rw [HE.out]; rfl, HBU.out⟩
end Go.Proofs.YtbfbfbbpajaclaaDoor
/-
  What the document's Read does behind the name: fields, word by word. Condition: the words lie in a row of their own.
-/
namespace Go.Proofs.YtbfbfbbpajaclaaDoor
open Go.RowKit
set_option linter.unusedVariables false
set_option linter.unusedSimpArgs false
set_option maxRecDepth 1000000
def headR26 : Code → Nat
  | .region i _ _ => i
  | .seq a _ => headR26 a
  | .block _ a => headR26 a
  | .scope a => headR26 a
  | .cond _ a _ => 100000
  | .loop a => headR26 a
  | _ => 100000
/-- The sequence that begins with a region. -/
def seqAt26 (k : Nat) : Code → Option Code
  | .seq a b => if headR26 a = k then some (.seq a b) else match seqAt26 k a with
    | some x => some x
    | none => seqAt26 k b
  | .block _ a => seqAt26 k a
  | .scope a => seqAt26 k a
  | .loop a => seqAt26 k a
  | .cond _ a b => match seqAt26 k a with
    | some x => some x
    | none => seqAt26 k b
  | _ => none
noncomputable def tailR26 : Code := ((Tryd.f32.body.bind (seqAt26 18)).getD .skip)
theorem unE_wf {e : En} (h : e.wf) (c : Nat) : 0 ≤ (unE e c).1 ∧ (unE e c).1 < 18446744073709551616 := h.un c
theorem wrap64_bd (n : Int) : -9223372036854775808 ≤ wrap64 n ∧ wrap64 n ≤ 9223372036854775807 := by
  unfold wrap64
  omega
theorem startM_wf {m : Int} (hm : 1 ≤ m ∧ m ≤ 17) (o : Bool) : (startM m o).wf := by
  refine ⟨fun c => ?_, fun c => ?_, by show _ ≤ m ∧ m ≤ _; omega⟩
  · have h : sgE (startM m o) c = 0 := by unfold sgE startM En.nil; simp
    rw [h]; omega
  · have h : (unE (startM m o) c).1 = 0 := by unfold unE startM En.nil; simp only; repeat' split
                                              all_goals rfl
    rw [h]; omega
theorem new_en (w : World) (e : En) : ∃ X Y, Hid (w.alloc (.cells (enC En.nil).toArray 36) = X) ∧ Hid (X.setCells w.heap.size 0 (enC e).toArray.toList = Y) ∧ Hid (Hp X w.heap.size 36 (enC En.nil)) ∧ Hid (Hp Y w.heap.size 36 (enC e)) ∧ Hid (Below w.heap.size w Y) := by
  have h1 := Hp.new w (enC En.nil) 36
  exact ⟨_, _, rfl, rfl, h1, setsEn e h1, (below_allocG w _).trans (grown_to_below (grown_sets w.heap.size (enC e).toArray.toList _ 0) (Nat.le_refl _) (by simp))⟩
end Go.Proofs.YtbfbfbbpajaclaaDoor
