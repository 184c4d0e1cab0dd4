/-
  JInquire
  JJudge
  JTypes
-/
import Derived.Test.YtlkdniglaldilaaGreatMG0
import Derived.Test.YtlkdniglaldilaaGreatMG44
import Derived.Test.YtlkdniglaldilaaGreatMG28
import Derived.Test.YtlkdniglaldilaaGreatMG27
import Derived.Laws.MakeOwn
namespace Go.Proofs.YtlkdniglaldilaaGreat
open Go.RowKit
set_option linter.unusedVariables false
set_option linter.unusedSimpArgs false
set_option maxRecDepth 100000
def blurK (xs : List In) (p : Nat) (K : Kn) : Kn := K.set p ((K.getD p kn0).1, blurAll xs p (loopsL xs) (K.getD p kn0).2)
def askE (xs : List In) (nm p : Nat) (K : Kn) : Int := asksJ nm (nth xs p) (K.getD p kn0).2 (K.getD ((p : Int) + (nth xs p).far).toNat kn0).2
def stepK (xs : List In) (nm p : Nat) (K : Kn) : Except Int Kn :=
 if (K.getD p kn0).1 = false then .ok K
 else if askE xs nm p (blurK xs p K) ≠ 0 then .error (askE xs nm p (blurK xs p K))
 else .ok (leaveK (nth xs p) p (blurK xs p K))
def runK (xs : List In) (nm : Nat) : Nat -> Except (Nat × Int) Kn
 | 0 => .ok (arrK (List.replicate xs.length kn0) 0 true stZ)
 | p + 1 => match runK xs nm p with
  | .error e => .error e
  | .ok K => match stepK xs nm p K with
   | .error E => .error (p, E)
   | .ok K' => .ok K'
theorem run_err {xs : List In} {nm p : Nat} {e : Nat × Int} (h : runK xs nm p = .error e) : ∀ n, p <= n -> runK xs nm n = .error e := by
  intro n hn
  induction n with
  | zero => obtain rfl : p = 0 := by omega
            exact h
  | succ n ih =>
    by_cases hp : p = n + 1
    · subst hp; exact h
    · rw [runK, ih (by omega)]
theorem made_blurK {nm : Nat} {xs : List In} {p : Nat} {K : Kn} (h : MadeK nm K) : MadeK nm (blurK xs p K) := h.set p (made_blurAll _ (h.at p))
theorem made_leaveK {nm : Nat} {i : In} {p : Nat} {K : Kn} {head : St} (hr : i.right = true) (hM : MadeK nm K) (ha : asksJ nm i (K.getD p kn0).2 head = 0) : MadeK nm (leaveK i p K) := by
 unfold leaveK
 split
 ·exact hM
 split
 ·exact made_arr hM _ _ (hM.at p)
 split
 ·rename_i ho
  exact made_arr (made_arr hM _ _ (made_ref hr (hM.at p) ha ho)) _ _ (made_ref hr (hM.at p) ha ho)
 ·rename_i ho
  exact made_arr hM _ _ (made_leaves hr (hM.at p) ha (wr_leaves hr _ ho false))
theorem made_rep (nm n : Nat) : MadeK nm (List.replicate n kn0) := fun p hp => by rw [List.eq_of_mem_replicate hp]; exact made_zero nm
theorem flat_rep_at (n j : Nat) (hj : j < n * 33) : (flatK (List.replicate n kn0))[j]? = zeroC[j % 33]? := by
 have h8 : Eight (List.replicate n kn0) := (made_rep 0 n).eight
 have := flatK_at h8 (k := j / 33) (j := j % 33) (by simp; omega) (by omega)
 rw [show j / 33 * 33 + j % 33 = j by omega] at this
 rw [this, show (List.replicate n kn0).getD (j / 33) kn0 = kn0 by simp [List.getD, List.getElem?_replicate]; split <;> rfl]
 rfl
theorem made_cells (n : Nat) : madeCells zeroC.toArray (n * 33) = (flatK (List.replicate n kn0)).toArray := by
 have h8 : Eight (List.replicate n kn0) := (made_rep 0 n).eight
 apply Array.ext_getElem?
 intro j
 by_cases hj : j < n * 33
 ·rw [show (flatK (List.replicate n kn0)).toArray[j]? = (flatK (List.replicate n kn0))[j]? from List.getElem?_toArray, flat_rep_at n j hj]
  have hz : zeroC.toArray.size = 33 := rfl
  simp only [madeCells, Array.getElem?_map]
  rw [Array.getElem?_range]
  simp only [hj, if_true, Option.map_some, hz]
  have hl : j % 33 < zeroC.length := by rw [zeroC_len]; omega
  rw [List.getElem?_eq_getElem hl]
  simp [hl]
 ·rw [Array.getElem?_eq_none (by rw [size_madeCells]; omega), show (flatK (List.replicate n kn0)).toArray[j]? = (flatK (List.replicate n kn0))[j]? from List.getElem?_toArray, List.getElem?_eq_none (by rw [flatK_len h8, List.length_replicate]; omega)]
theorem run_makeK (n : Nat) (hn : n <= 64) (w : World) : (Instr.makeSlice 112 (.int .i64 n) (.int .i64 n)).run Tryz.prog w = .ok (.slice (some ⟨w.heap.size, 0, none⟩) n n) (w.alloc (.cells (flatK (List.replicate n kn0)).toArray 146)) := by
 have hi : ∃ i, Tryz.prog.info? 146 = some i /\ i.size = 33 /\ i.zero = some (.agg zeroC.toArray) /\ i.bytes <= 1000000 := ⟨_, rfl, rfl, rfl, by decide⟩
 obtain ⟨i, h1, h2, h3, h4⟩ := hi
 have := run_make (P := Tryz.prog) w 112 146 i _ Tryz.underlying112 h1 h3 .i64 .i64 n n (by omega) (Int.le_refl _) (by have : (i.bytes : Int) * n <= 1000000 * 64 := Int.mul_le_mul (by omega) (by omega) (by omega) (by omega); omega) (by omega)
 rw [h2] at this
 simp only [Int.toNat_natCast, Value.cells] at this
 rw [made_cells] at this
 exact this
def Begun (w3 wc : World) (nm : Nat) (vl : Value) (cb co ccap : Nat) (xs : List In) (ls : List Lp) (v : Value) : Prop := ∃ qb kb, v = .pointer (some ⟨qb, 0, none⟩) /\ Inq w3 wc qb kb nm vl cb co ccap xs ls (List.replicate xs.length kn0)
theorem keepM2 {w w' : World} {x : Nat} {u v : Value} (h : w.cell? ⟨x, 0, none⟩ = some u /\ w.cell? ⟨x, 1, none⟩ = some v) (hb : Below w.heap.size w w') (hx : x < w.heap.size) : w'.cell? ⟨x, 0, none⟩ = some u /\ w'.cell? ⟨x, 1, none⟩ = some v := by
 rw [hb.cell (p := ⟨x, 0, none⟩) hx, hb.cell (p := ⟨x, 1, none⟩) hx]; exact h
set_option maxHeartbeats 6400000 in
theorem linq_run (vm : Value) (ms : List Int) (cb co ccap : Nat) (xs : List In) (w : World) (hm : Sees .i64 w vm ms) (hx : SeesI w (.slice (some ⟨cb, co, none⟩) xs.length ccap) xs) (hmf : Hid (mapsJ ms = true)) (hE : Hid (0 = errL xs)) :
  Calls Tryz.prog 63 #[.agg #[vm, .slice (some ⟨cb, co, none⟩) xs.length ccap]] w fun e w' =>
   (∃ (p : Nat) (E : Int), runK xs ms.length xs.length = .error (p, E) /\ E ≠ 0 /\ p < xs.length /\ e = .returned (.tuple #[.slice none 0 0, .int .i64 p, .int .i64 E]) /\ Below w.heap.size w w') ∨
   (∃ (K : Kn) (kb : Nat), runK xs ms.length xs.length = .ok K /\ e = .returned (.tuple #[.slice (some ⟨kb, 0, none⟩) xs.length xs.length, .int .i64 0, .int .i64 0]) /\ Hp w' kb 146 (flatK K) /\ w.heap.size <= kb /\ K.length = xs.length /\ MadeK ms.length K /\ Below w.heap.size w w') := by
 have hT : Taken xs := check_ok.1 hE.out.symm
 have HT := keepJ hT
 have HX := keepJ hx
 have HMS := keepJ hm
 obtain ⟨ma, mcap, rfl⟩ : ∃ a c, vm = .slice a ms.length c := by obtain ⟨a, c, h, _⟩ := hm; exact ⟨a, c, h⟩
 obtain ⟨nm, HNM⟩ : ∃ nm, Hid (ms.length = nm) := ⟨_, rfl⟩
 rw [HNM.out] at HMS ⊢
 obtain ⟨P, HP0⟩ : ∃ P, Hid (P = (checkL xs).1) := ⟨_, rfl⟩
 have h64 := hT.top
 have hx64 : (xs.length : Int) <= 64 := by omega
 have hpos : 0 < xs.length := hT.pos
 obtain ⟨W, HW, HBW, hWz, hWz2, m0, m1⟩ : ∃ W, Hid (W = w.alloc (Obj.cells #[.slice ma nm mcap, .slice (some ⟨cb, co, none⟩) xs.length ccap] 39)) /\ Hid (Below w.heap.size w W) /\ w.heap.size < W.heap.size /\ W.heap.size <= w.heap.size + 1 /\ W.cell? ⟨w.heap.size, 0, none⟩ = some (.slice ma nm mcap) /\ W.cell? ⟨w.heap.size, 1, none⟩ = some (.slice (some ⟨cb, co, none⟩) xs.length ccap) :=
  ⟨_, rfl, keepJ (by go_grown), by simp, by simp, by go_cell, by go_cell⟩
 have HXW := keepJ (HX.out.below HBW.out)
 have HMW := keepJ (HMS.out.below HBW.out (Nat.le_refl _))
 clear hx hm hT
 go_enter Tryz.func63, Tryz.ntmps63
 go_wp2_with (first
  | (go_at_call 78; rw [<- HW.out]; go_must (refine (lmapsFit_any _ ms _ HMW.out hmf).mono ?_); rintro e w' ⟨rfl, rfl⟩)
  | (go_at_call 79; go_must (refine (check_as HXW.out HP0 hE).mono ?_); rintro e w2 ⟨rfl, hb2⟩; go_must (have hS2 := keepM2 ⟨m0, m1⟩ hb2 hWz; have hz2 := hb2.size; have HX2 := keepJ (HXW.out.below hb2); clear m0 m1; obtain ⟨m0, m1⟩ := hS2))
  | (go_at_call 80; go_must (refine (lloops_any _ xs _ HX2.out hE).mono ?_); rintro e w3 ⟨u3, rfl, hown3, hb3⟩; go_must (have hS3 := keepM2 ⟨m0, m1⟩ hb3 (by omega); have hz3 := hb3.size; have HX3 := keepJ (HX2.out.below hb3); have HL3 := keepJ (own_seesL hown3); have HB3 := keepJ (HBW.out.trans ((hb2.trans (hb3.mono hz2)).mono HBW.out.size)); obtain ⟨la, lcap, rfl⟩ := own_shapeT hown3; clear m0 m1 hown3 hb2 hb3; obtain ⟨m0, m1⟩ := hS3)))
 -- THE REGION
 obtain ⟨ls, HLS, HLL⟩ : ∃ ls, Hid (loopsA xs = ls) /\ Hid (ls = loopsL xs) := ⟨_, rfl, by show _ = _; unfold loopsA; rw [if_pos hE.out.symm]⟩
 rw [HLS.out] at HL3 ⊢
 clear HLS
 obtain ⟨MC, HMC⟩ : ∃ MC, Hid (MC = flatK (List.replicate xs.length kn0)) := ⟨_, rfl⟩
 have hmk : ∀ wx : World, (Instr.makeSlice 112 (.int .i64 xs.length) (.int .i64 xs.length)).run Tryz.prog wx = .ok (.slice (some ⟨wx.heap.size, 0, none⟩) xs.length xs.length) (wx.alloc (.cells MC.toArray 146)) := fun wx => by rw [HMC.out]; exact run_makeK xs.length h64 wx
 have HP : Hid (∀ w', Below w3.heap.size w3 w' -> w'.cell? ⟨w.heap.size, 0, none⟩ = some (.slice ma nm mcap) /\ w'.cell? ⟨w.heap.size, 1, none⟩ = some (.slice (some ⟨cb, co, none⟩) xs.length ccap)) := fun w' hb' => keepM2 ⟨m0, m1⟩ hb' (by omega)
 go_cut [9] from 12 (fun v9 wc => Begun w3 wc nm (.slice la ls.length lcap) cb co ccap xs ls v9)
 case first =>
  clear m0 m1
  refine wp_region_held_drew (S := fun w' => w'.cell? ⟨w.heap.size, 0, none⟩ = some (.slice ma nm mcap) /\ w'.cell? ⟨w.heap.size, 1, none⟩ = some (.slice (some ⟨cb, co, none⟩) xs.length ccap)) (by kernel_rfl) (HP.out _ (Below.refl _ _).drew) (fun hHeld => ?_)
  refine tkGo [0, 1, 2, 3, 4, 5, 6, 7, 8] ?_
  repeat (refine tkO (v := ?_) rfl ?_ ?_; rotate_left; (intro wy hSw; (try dsimp only at hSw); go_simp; (first | done | with_reducible rfl)); try simp only [Act.put, p1q, p2q, p3q, p4q, p5q, p6q])
  refine tkEnd ?_
  refine runT 9 11 (by kernel_rfl) rfl rfl (by rfl) (by rfl) (fun KK hK => ?_) (fun KK hK => ?_)
  ·go_simp
   refine hK.out _ _ (HP.out _ ((Below.refl _ _).alloc (Nat.le_refl _) _).drew) (fun hHeld => ?_)
   clear hK KK
   try simp only [Act.put, p1q, p2q, p3q, p4q, p5q, p6q]
   refine tkGo [10] ?_
   repeat (refine tkO (v := ?_) rfl ?_ ?_; rotate_left; (intro wy hSw; (try dsimp only at hSw); go_simp; (first | done | with_reducible rfl)); try simp only [Act.put, p1q, p2q, p3q, p4q, p5q, p6q])
   refine tkEnd ?_
   refine runO 11 (by kernel_rfl) rfl (by rfl) (fun KK hK => ?_)
   go_simp
   obtain ⟨Y, HY, HqY, HkY, hbY, hzY⟩ : ∃ Y, Hid (Y = (w3.alloc (Obj.cells MC.toArray 146)).alloc (Obj.cells #[.int .i64 0, .slice none 0 0, .slice none 0 0, .slice none 0 0] 137)) /\ Hid (Hp Y (w3.heap.size + 1) 137 [.int .i64 0, .slice none 0 0, .slice none 0 0, .slice none 0 0]) /\ Hid (Hp Y w3.heap.size 146 MC) /\ Below w3.heap.size w3 Y /\ w3.heap.size + 2 <= Y.heap.size :=
    ⟨_, rfl, keepJ (by have := Hp.new (w3.alloc (Obj.cells MC.toArray 146)) [.int .i64 0, .slice none 0 0, .slice none 0 0, .slice none 0 0] 137; simpa using this), (Hp.new w3 MC _).alloc _, by go_grown, by simp⟩
   rw [<- HY.out]
   clear HY
   refine hK.out _ _ (HP.out _ hbY.drew) (fun hHeld => ?_)
   clear hK KK
   try simp only [Act.put, p1q, p2q, p3q, p4q, p5q, p6q]
   have n0 : Y.cell? ⟨(w3.heap.size + 1), 0, none⟩ = some (.int .i64 0) := HqY.out.cell rfl
   have n1 : Y.cell? ⟨(w3.heap.size + 1), 1, none⟩ = some (.slice none 0 0) := HqY.out.cell rfl
   have n2 : Y.cell? ⟨(w3.heap.size + 1), 2, none⟩ = some (.slice none 0 0) := HqY.out.cell rfl
   have n3 : Y.cell? ⟨(w3.heap.size + 1), 3, none⟩ = some (.slice none 0 0) := HqY.out.cell rfl
   have f0 := HqY.out.frozen 0
   have f1 := HqY.out.frozen 1
   have f2 := HqY.out.frozen 2
   have f3 := HqY.out.frozen 3
   refine runO 12 (by kernel_rfl) rfl (by rfl) (fun KK hK => ?_)
   go_simp
   clear n0 n1 n2 n3 f0 f1 f2 f3
   obtain ⟨V, HV, HqV, HkV, hbV⟩ : ∃ V, Hid (V = ((((Y.setCell ⟨(w3.heap.size + 1), 0, none⟩ (.int .i64 nm)).setCell ⟨(w3.heap.size + 1), 1, none⟩ (.slice (some ⟨cb, co, none⟩) xs.length ccap)).setCell ⟨(w3.heap.size + 1), 2, none⟩ (.slice la ls.length lcap)).setCell ⟨(w3.heap.size + 1), 3, none⟩ (.slice (some ⟨w3.heap.size, 0, none⟩) xs.length xs.length))) /\ Hid (Hp V (w3.heap.size + 1) 137 (qC nm (.slice (some ⟨cb, co, none⟩) xs.length ccap) (.slice la ls.length lcap) w3.heap.size xs.length)) /\ Hid (Hp V w3.heap.size 146 MC) /\ Below w3.heap.size w3 V := ⟨_, rfl, HqY.out.sets (qC nm (.slice (some ⟨cb, co, none⟩) xs.length ccap) (.slice la ls.length lcap) w3.heap.size xs.length) 0, HkY.out.fars (by omega) (qC nm (.slice (some ⟨cb, co, none⟩) xs.length ccap) (.slice la ls.length lcap) w3.heap.size xs.length) 0, hbY.trans (grown_to_below (grown_sets _ (qC nm (.slice (some ⟨cb, co, none⟩) xs.length ccap) (.slice la ls.length lcap) w3.heap.size xs.length) Y 0) (by omega) hbY.size)⟩
   rw [<- HV.out]
   clear HV
   refine hK.out _ _ (HP.out _ hbV.drew) (fun hHeld => ?_)
   clear hK KK
   try simp only [Act.put, p1q, p2q, p3q, p4q, p5q, p6q]
   refine wpAnyH_done (by kernel_rfl) ?_ _
   go_wp2
   go_meet
   case rel => exact ⟨(w3.heap.size + 1), w3.heap.size, rfl, hbV.drew, HqV.out.drew, by rw [<- HMC.out]; exact HkV.out.drew, by simp, by omega, by omega, by omega, (made_rep 0 _).eight, HX3.out, HL3.out⟩
  ·go_simp
   refine hK.out _ _ (HP.out _ ((Below.refl _ _).alloc (Nat.le_refl _) _).drew) (fun hHeld => ?_)
   clear hK KK
   try simp only [Act.put, p1q, p2q, p3q, p4q, p5q, p6q]
   refine runO 9 (by kernel_rfl) rfl (by rfl) (fun KK hK => ?_)
   go_simp
   obtain ⟨Y, HY, HqY, HkY, hbY, hzY⟩ : ∃ Y, Hid (Y = (w3.alloc (Obj.cells #[.int .i64 0, .slice none 0 0, .slice none 0 0, .slice none 0 0] 137)).alloc (Obj.cells MC.toArray 146)) /\ Hid (Hp Y w3.heap.size 137 [.int .i64 0, .slice none 0 0, .slice none 0 0, .slice none 0 0]) /\ Hid (Hp Y (w3.heap.size + 1) 146 MC) /\ Below w3.heap.size w3 Y /\ w3.heap.size + 2 <= Y.heap.size :=
    ⟨_, rfl, (Hp.new w3 [.int .i64 0, .slice none 0 0, .slice none 0 0, .slice none 0 0] _).alloc _, keepJ (by have := Hp.new (w3.alloc (Obj.cells #[.int .i64 0, .slice none 0 0, .slice none 0 0, .slice none 0 0] 137)) MC 146; simpa using this), by go_grown, by simp⟩
   rw [<- HY.out]
   clear HY
   refine hK.out _ _ (HP.out _ hbY.drew) (fun hHeld => ?_)
   clear hK KK
   try simp only [Act.put, p1q, p2q, p3q, p4q, p5q, p6q]
   refine tkGo [10] ?_
   repeat (refine tkO (v := ?_) rfl ?_ ?_; rotate_left; (intro wy hSw; (try dsimp only at hSw); go_simp; (first | done | with_reducible rfl)); try simp only [Act.put, p1q, p2q, p3q, p4q, p5q, p6q])
   refine tkEnd ?_
   have n0 : Y.cell? ⟨w3.heap.size, 0, none⟩ = some (.int .i64 0) := HqY.out.cell rfl
   have n1 : Y.cell? ⟨w3.heap.size, 1, none⟩ = some (.slice none 0 0) := HqY.out.cell rfl
   have n2 : Y.cell? ⟨w3.heap.size, 2, none⟩ = some (.slice none 0 0) := HqY.out.cell rfl
   have n3 : Y.cell? ⟨w3.heap.size, 3, none⟩ = some (.slice none 0 0) := HqY.out.cell rfl
   have f0 := HqY.out.frozen 0
   have f1 := HqY.out.frozen 1
   have f2 := HqY.out.frozen 2
   have f3 := HqY.out.frozen 3
   refine runO 12 (by kernel_rfl) rfl (by rfl) (fun KK hK => ?_)
   go_simp
   clear n0 n1 n2 n3 f0 f1 f2 f3
   obtain ⟨V, HV, HqV, HkV, hbV⟩ : ∃ V, Hid (V = ((((Y.setCell ⟨w3.heap.size, 0, none⟩ (.int .i64 nm)).setCell ⟨w3.heap.size, 1, none⟩ (.slice (some ⟨cb, co, none⟩) xs.length ccap)).setCell ⟨w3.heap.size, 2, none⟩ (.slice la ls.length lcap)).setCell ⟨w3.heap.size, 3, none⟩ (.slice (some ⟨(w3.heap.size + 1), 0, none⟩) xs.length xs.length))) /\ Hid (Hp V w3.heap.size 137 (qC nm (.slice (some ⟨cb, co, none⟩) xs.length ccap) (.slice la ls.length lcap) (w3.heap.size + 1) xs.length)) /\ Hid (Hp V (w3.heap.size + 1) 146 MC) /\ Below w3.heap.size w3 V := ⟨_, rfl, HqY.out.sets (qC nm (.slice (some ⟨cb, co, none⟩) xs.length ccap) (.slice la ls.length lcap) (w3.heap.size + 1) xs.length) 0, HkY.out.fars (by omega) (qC nm (.slice (some ⟨cb, co, none⟩) xs.length ccap) (.slice la ls.length lcap) (w3.heap.size + 1) xs.length) 0, hbY.trans (grown_to_below (grown_sets _ (qC nm (.slice (some ⟨cb, co, none⟩) xs.length ccap) (.slice la ls.length lcap) (w3.heap.size + 1) xs.length) Y 0) (by omega) hbY.size)⟩
   rw [<- HV.out]
   clear HV
   refine hK.out _ _ (HP.out _ hbV.drew) (fun hHeld => ?_)
   clear hK KK
   try simp only [Act.put, p1q, p2q, p3q, p4q, p5q, p6q]
   refine wpAnyH_done (by kernel_rfl) ?_ _
   go_wp2
   go_meet
   case rel => exact ⟨w3.heap.size, (w3.heap.size + 1), rfl, hbV.drew, HqV.out.drew, by rw [<- HMC.out]; exact HkV.out.drew, by simp, by omega, by omega, by omega, (made_rep 0 _).eight, HX3.out, HL3.out⟩
 case rest =>
  obtain ⟨qb, kb, rfl, hInq⟩ := hcut
  have HQ := keepJ hInq
  have hs0 : Made8 nm stZ := made_zero nm
  have HM0 := keepJ (made_rep nm xs.length)
  have H0 : Hid ((0 : Int) = ((0 : Nat) : Int)) := rfl
  clear hInq hmk HP m0 m1 HMC
  go_wp2_with (first
   | (go_at_call 81; go_must (refine (larrive_inq HQ.out H0 hpos true hs0 HM0.out).mono ?_); rintro e w5 ⟨rfl, hg5, hq5, hm5⟩; go_must (have HQ5 := keepJ hq5; have HM5 := keepJ hm5; have q1 : w5.cell? ⟨qb, 1, none⟩ = some (.slice (some ⟨cb, co, none⟩) xs.length ccap) := hq5.q.cell rfl; clear hg5 hq5 hm5)))
  clear q1
  go_loopw [48] (fun i wr => ∃ k : Nat, k <= xs.length /\ i = .int .i64 k /\ Hid (∃ K, runK xs nm k = .ok K /\ Inq w3 wr qb kb nm (.slice la ls.length lcap) cb co ccap xs ls K /\ MadeK nm K)) (fun i _ => xs.length - (intOf i).toNat)
  case atStart => exact ⟨0, by omega, rfl, _, rfl, HQ5.out, HM5.out⟩
  case round =>
   obtain ⟨k, hk, rfl, HI⟩ := hrel
   obtain ⟨K, hrun, hq, hM⟩ := HI.out
   have HRN := keepJ hrun
   have HQK := keepJ hq
   have HMK := keepJ hM
   have q3 : wr.cell? ⟨qb, 3, none⟩ = some (.slice (some ⟨kb, 0, none⟩) xs.length xs.length) := hq.q.cell rfl
   by_cases hlt : k < xs.length
   ·have hkI : (k : Int) < xs.length := by omega
    obtain ⟨r, s, HR⟩ : ∃ r s, Hid (K.getD k kn0 = (r, s)) := ⟨_, _, rfl⟩
    have k0 : wr.cell? ⟨kb, k * 33, none⟩ = some (.bool r) := (hq.k.state hq.e8 (by rw [hq.len]; exact hlt) HR.out).cell
    clear hrun hq hM HI
    cases r with
    | false =>
     have HN : Hid (runK xs nm (k + 1) = .ok K) := by show _ = _; rw [runK, HRN.out]; simp only [stepK]; rw [HR.out]; rfl
     go_wp2
     go_roundw
     case rel => exact ⟨k + 1, by omega, by go_num, K, HN.out, HQK.out, HMK.out⟩
     case measure => simp [intOf]; omega
    | true =>
     obtain ⟨E, HE⟩ : ∃ E, Hid (E = askE xs nm k (blurK xs k K)) := ⟨_, rfl⟩
     by_cases hE0 : E = 0
     ·subst hE0
      have HN : Hid (runK xs nm (k + 1) = .ok (leaveK (nth xs k) k (blurK xs k K))) := by show _ = _; rw [runK, HRN.out]; simp only [stepK]; rw [HR.out, if_neg (by simp), <- HE.out, if_neg (by simp)]
      go_wp2_with (first
       | (go_at_call 82; go_must (refine (lblur_any HQK.out HT.out HLL.out hlt HMK.out).mono ?_); rintro e w6 ⟨rfl, hq6⟩; go_must (have HQ6 : Hid (Inq w3 w6 qb kb nm (.slice la ls.length lcap) cb co ccap xs ls (blurK xs k K)) := (by have := hq6; rw [HLL.out] at this ⊢; exact this); have HM6 := keepJ (made_blurK (xs := xs) (p := k) HMK.out); clear hq6))
       | (go_at_call 83; go_must (refine (lask_any HQ6.out HT.out hlt HM6.out HE).mono ?_); rintro e w7 ⟨rfl, hb7⟩; go_must (have HQ7 := keepJ (HQ6.out.below hb7); clear hb7))
       | (go_at_call 84; go_must (refine (lleave_any HQ7.out HT.out hlt HM6.out HE.out.symm).mono ?_); rintro e w8 ⟨rfl, hq8⟩; go_must (have HQ8 := keepJ hq8; clear hq8)))
      go_roundw
      case rel => exact ⟨k + 1, by omega, by go_num, _, HN.out, HQ8.out, made_leaveK (HT.out.right hlt) HM6.out HE.out.symm⟩
      case measure => simp [intOf]; omega
     ·have HN : Hid (runK xs nm xs.length = .error (k, E)) := run_err (p := k + 1) (by rw [runK, HRN.out]; simp only [stepK]; rw [HR.out, if_neg (by simp), <- HE.out, if_pos hE0]) _ (by omega)
      go_wp2_with (first
       | (go_at_call 82; go_must (refine (lblur_any HQK.out HT.out HLL.out hlt HMK.out).mono ?_); rintro e w6 ⟨rfl, hq6⟩; go_must (have HQ6 : Hid (Inq w3 w6 qb kb nm (.slice la ls.length lcap) cb co ccap xs ls (blurK xs k K)) := (by have := hq6; rw [HLL.out] at this ⊢; exact this); have HM6 := keepJ (made_blurK (xs := xs) (p := k) HMK.out); clear hq6))
       | (go_at_call 83; go_must (refine (lask_any HQ6.out HT.out hlt HM6.out HE).mono ?_); rintro e w7 ⟨rfl, hb7⟩; go_must (have HQ7 := keepJ (HQ6.out.below hb7); clear hb7)))
      go_ret3
      exact .inl ⟨k, E, HN.out, hE0, hlt, rfl, HB3.out.trans (HQ7.out.b0.mono HB3.out.size)⟩
   ·obtain rfl : k = xs.length := by omega
    clear hrun hq hM HI
    go_wp2
    go_ret3
    exact .inr ⟨K, kb, HRN.out, rfl, HQK.out.k, Nat.le_trans HB3.out.size HQK.out.hk, HQK.out.len, HMK.out, HB3.out.trans (HQK.out.b0.mono HB3.out.size)⟩
def inqR (ms : List Int) (xs : List In) : Except (Int × Int) Kn :=
 if mapsJ ms = false then .error (0, 2) else if errL xs ≠ 0 then .error ((checkL xs).1, errL xs)
 else match runK xs ms.length xs.length with
  | .error e => .error (e.1, e.2)
  | .ok K => .ok K
def judgeR (ms : List Int) (xs : List In) : Int × Int := match inqR ms xs with | .error e => e | .ok _ => (0, 0)
theorem first_lt {p : Nat -> Bool} {n k : Nat} (h : first p n = some k) : k < n := by
 unfold first at h
 exact List.mem_range.1 (List.mem_of_find?_eq_some h)
theorem crossF_mem : ∀ (r prev : List Lp) (t : Int), crossF prev r = some t -> ∃ l ∈ r, l.t = t
 | [], prev, t, h => by simp [crossF] at h
 | x :: r, prev, t, h => by
  rw [crossF] at h
  split at h
  ·injection h with h; exact ⟨x, by simp, h⟩
  ·obtain ⟨l, hl, e⟩ := crossF_mem r _ t h; exact ⟨l, by simp [hl], e⟩
theorem check_place (xs : List In) : 0 <= (checkL xs).1 /\ ((checkL xs).1 = 0 ∨ (checkL xs).1 < xs.length) := by
 unfold checkL
 split
 ·exact ⟨by decide, .inl rfl⟩
 split
 ·exact ⟨by decide, .inl rfl⟩
 split
 ·rename_i k hk
  have := first_lt hk
  exact ⟨by simp, .inr (by simp; omega)⟩
 split
 ·rename_i t ht
  obtain ⟨l, hl, rfl⟩ := crossF_mem _ _ _ ht
  obtain ⟨k, hk, _, rfl⟩ := loopsU_mem.1 hl
  exact ⟨by simp [lpAt], .inr (by simp [lpAt]; omega)⟩
 split
 ·rename_i k hk
  have := first_lt hk
  exact ⟨by simp, .inr (by simp; omega)⟩
 split
 ·exact ⟨by decide, .inl rfl⟩
 ·exact ⟨by decide, .inl rfl⟩
set_option maxHeartbeats 800000 in
theorem linq_maps (vm vc : Value) (ms : List Int) (w : World) (hm : Sees .i64 w vm ms) (hmf : Hid (mapsJ ms = false)) :
  Calls Tryz.prog 63 #[.agg #[vm, vc]] w fun e w' => e = .returned (.tuple #[.slice none 0 0, .int .i64 0, .int .i64 2]) /\ Below w.heap.size w w' := by
 have HM := keepJ hm
 obtain ⟨ma, mcap, rfl⟩ : ∃ a c, vm = .slice a ms.length c := by obtain ⟨a, c, h, _⟩ := hm; exact ⟨a, c, h⟩
 go_enter Tryz.func63, Tryz.ntmps63
 go_wp2_with (go_at_call 78; go_must (refine (lmapsFit_any _ ms _ (HM.out.below ((Below.refl _ _).alloc (Nat.le_refl _) _) (Nat.le_refl _)) hmf).mono ?_); rintro e w' ⟨rfl, rfl⟩)
 go_ret3
 exact ⟨rfl, by go_grown⟩
set_option maxHeartbeats 800000 in
theorem linq_flow (vm : Value) (ms : List Int) (vc : Value) (xs : List In) (w : World) (hm : Sees .i64 w vm ms) (hx : SeesI w vc xs) (hmf : Hid (mapsJ ms = true)) {P E : Int} (hP : Hid (P = (checkL xs).1)) (hE : Hid (E = errL xs)) (hE0 : E ≠ 0) :
  Calls Tryz.prog 63 #[.agg #[vm, vc]] w fun e w' => e = .returned (.tuple #[.slice none 0 0, .int .i64 P, .int .i64 E]) /\ Below w.heap.size w w' := by
 have HM := keepJ hm
 have HX := keepJ hx
 obtain ⟨ma, mcap, rfl⟩ : ∃ a c, vm = .slice a ms.length c := by obtain ⟨a, c, h, _⟩ := hm; exact ⟨a, c, h⟩
 obtain ⟨ca, ccap, rfl⟩ : ∃ a c, vc = .slice a xs.length c := by obtain ⟨a, c, h, _⟩ := hx; exact ⟨a, c, h⟩
 have hE1 : ¬ E = 0 := hE0
 clear hm hx hE0
 go_enter Tryz.func63, Tryz.ntmps63
 go_wp2_with (first
  | (go_at_call 78; go_must (refine (lmapsFit_any _ ms _ (HM.out.below ((Below.refl _ _).alloc (Nat.le_refl _) _) (Nat.le_refl _)) hmf).mono ?_); rintro e w' ⟨rfl, rfl⟩)
  | (go_at_call 79; go_must (refine (check_as (HX.out.below ((Below.refl _ _).alloc (Nat.le_refl _) _)) hP hE).mono ?_); rintro e w2 ⟨rfl, hb2⟩; go_must (have hB2 := box_below hb2; clear hb2)))
 go_ret3
 exact ⟨rfl, hB2⟩
theorem linquire_any (vm : Value) (ms : List Int) (vc : Value) (xs : List In) (w : World) (hm : Sees .i64 w vm ms) (hx : SeesI w vc xs) :
  Calls Tryz.prog 63 #[.agg #[vm, vc]] w fun e w' =>
   (∃ P E : Int, inqR ms xs = .error (P, E) /\ E ≠ 0 /\ (0 <= P /\ (P = 0 ∨ P < xs.length)) /\ e = .returned (.tuple #[.slice none 0 0, .int .i64 P, .int .i64 E]) /\ Below w.heap.size w w') ∨
   (∃ (K : Kn) (kb : Nat), inqR ms xs = .ok K /\ Taken xs /\ mapsJ ms = true /\ runK xs ms.length xs.length = .ok K /\ e = .returned (.tuple #[.slice (some ⟨kb, 0, none⟩) xs.length xs.length, .int .i64 0, .int .i64 0]) /\ Hp w' kb 146 (flatK K) /\ w.heap.size <= kb /\ K.length = xs.length /\ MadeK ms.length K /\ Below w.heap.size w w') := by
 unfold inqR
 cases hmf : mapsJ ms with
 | false =>
  refine (linq_maps vm vc ms w hm hmf).mono ?_
  rintro e w' ⟨rfl, hb⟩
  exact .inl ⟨0, 2, by simp, by decide, ⟨by decide, .inl rfl⟩, rfl, hb⟩
 | true =>
  by_cases hE : errL xs = 0
  ·have hT : Taken xs := check_ok.1 hE
   obtain ⟨a, cap, hv, h1, h2, h3, h4⟩ := id hx
   obtain ⟨b, off, rfl, hlt, hat⟩ := h4 (fun e => by have := hT.pos; rw [e] at this; simp at this)
   subst hv
   refine (linq_run vm ms b off cap xs w hm hx hmf hE.symm).mono ?_
   rintro e w' (⟨p, E, hr, hE0, hp, rfl, hb⟩ | ⟨K, kb, hr, rfl, hk, hkb, hl, hM, hb⟩)
   ·refine .inl ⟨p, E, ?_, hE0, ⟨by omega, .inr (by omega)⟩, rfl, hb⟩
    rw [if_neg (by simp), if_neg (by simp [hE]), hr]
   ·refine .inr ⟨K, kb, ?_, hT, rfl, hr, rfl, hk, hkb, hl, hM, hb⟩
    rw [if_neg (by simp), if_neg (by simp [hE]), hr]
  ·refine (linq_flow vm ms vc xs w hm hx hmf rfl rfl hE).mono ?_
   rintro e w' ⟨rfl, hb⟩
   exact .inl ⟨(checkL xs).1, errL xs, by rw [if_neg (by simp), if_pos hE], hE, check_place xs, rfl, hb⟩
set_option maxHeartbeats 800000 in
theorem ljudge_any (vm : Value) (ms : List Int) (vc : Value) (xs : List In) (w : World) (hm : Sees .i64 w vm ms) (hx : SeesI w vc xs) :
  Calls Tryz.prog 54 #[.agg #[vm, vc]] w fun e w' => ∃ P E : Int, judgeR ms xs = (P, E) /\ (E = 0 ↔ ∃ K, inqR ms xs = .ok K) /\ (0 <= P /\ (P = 0 ∨ P < xs.length)) /\ e = .returned (.tuple #[.int .i64 P, .int .i64 E]) /\ Below w.heap.size w w' := by
 have HM := keepJ hm
 have HX := keepJ hx
 obtain ⟨ma, mcap, rfl⟩ : ∃ a c, vm = .slice a ms.length c := by obtain ⟨a, c, h, _⟩ := hm; exact ⟨a, c, h⟩
 obtain ⟨ca, ccap, rfl⟩ : ∃ a c, vc = .slice a xs.length c := by obtain ⟨a, c, h, _⟩ := hx; exact ⟨a, c, h⟩
 clear hm hx
 go_enter Tryz.func54, Tryz.ntmps54
 go_wp2_with (go_at_call 63; go_must (refine (linquire_any _ ms _ xs _ (HM.out.below ((Below.refl _ _).alloc (Nat.le_refl _) _) (Nat.le_refl _)) (HX.out.below ((Below.refl _ _).alloc (Nat.le_refl _) _))).mono ?_); rintro e w1 (⟨P, E, hi, hE0, hP, rfl, hb⟩ | ⟨K, kb, hi, hT, hmf, hr, rfl, hk, hkb, hl, hM, hb⟩) <;> (have HB := keepJ (box_below hb); have HI := keepJ hi; clear hb hi))
 ·go_ret2
  exact ⟨P, E, by unfold judgeR; rw [HI.out], ⟨fun h => absurd h hE0, fun ⟨K, h⟩ => by rw [HI.out] at h; cases h⟩, hP, rfl, HB.out⟩
 ·go_ret2
  exact ⟨0, 0, by unfold judgeR; rw [HI.out], ⟨fun _ => ⟨K, HI.out⟩, fun _ => rfl⟩, ⟨by decide, .inl rfl⟩, rfl, HB.out⟩
end Go.Proofs.YtlkdniglaldilaaGreat
