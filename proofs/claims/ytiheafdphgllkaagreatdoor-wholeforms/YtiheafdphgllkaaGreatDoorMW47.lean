/-
  JInquire
  JRun
  JPull
  E11Safe
  E11Step
  E11Run
  JJudge
  JTypes
  E11Tr
-/
import Derived.Test.YtiheafdphgllkaaGreatDoorMW5
import Derived.Test.YtiheafdphgllkaaGreatDoorMW46
import Derived.Test.YtiheafdphgllkaaGreatDoorMW37
import Derived.Test.YtiheafdphgllkaaGreatDoorMW42
import Derived.Test.YtiheafdphgllkaaGreatDoorMW35
import Derived.Test.YtiheafdphgllkaaGreatDoorMW10
import Derived.Laws.MakeOwn
namespace Go.Proofs.YtiheafdphgllkaaGreatDoor
open Go.RowKit
set_option linter.unusedVariables false
set_option linter.unusedSimpArgs false
set_option maxRecDepth 100000
def blurK (xs : List In) (p : Nat) (K : Kn) : Kn := K.set p ((K.getD p kn0).1, blurAll xs p (loopsL xs) (K.getD p kn0).2)
def askE (xs : List In) (nm p : Nat) (K : Kn) : Int := asksJ nm (nth xs p) (K.getD p kn0).2 (K.getD ((p : Int) + (nth xs p).far).toNat kn0).2
def stepK (xs : List In) (nm p : Nat) (K : Kn) : Except Int Kn :=
 if (K.getD p kn0).1 = false then .ok K
 else if askE xs nm p (blurK xs p K) ≠ 0 then .error (askE xs nm p (blurK xs p K))
 else .ok (leaveK (nth xs p) p (blurK xs p K))
def runK (xs : List In) (nm : Nat) : Nat -> Except (Nat × Int) Kn
 | 0 => .ok (arrK (List.replicate xs.length kn0) 0 true stZ)
 | p + 1 => match runK xs nm p with
  | .error e => .error e
  | .ok K => match stepK xs nm p K with
   | .error E => .error (p, E)
   | .ok K' => .ok K'
theorem run_err {xs : List In} {nm p : Nat} {e : Nat × Int} (h : runK xs nm p = .error e) : ∀ n, p <= n -> runK xs nm n = .error e := by
  intro n hn
  induction n with
  | zero => obtain rfl : p = 0 := by omega
            exact h
  | succ n ih =>
    by_cases hp : p = n + 1
    · subst hp; exact h
    · rw [runK, ih (by omega)]
theorem leaveK_len (i : In) (p : Nat) (K : Kn) : (leaveK i p K).length = K.length := by
 unfold leaveK
 split
 ·rfl
 split
 ·exact arrK_len _ _ _ _
 split
 ·rw [arrK_len, arrK_len]
 ·exact arrK_len _ _ _ _
theorem made_blurK {nm : Nat} {xs : List In} {p : Nat} {K : Kn} (h : MadeK nm K) : MadeK nm (blurK xs p K) := h.set p (made_blurAll _ (h.at p))
theorem made_leaveK {nm : Nat} {i : In} {p : Nat} {K : Kn} {head : St} (hr : i.right = true) (hM : MadeK nm K) (ha : asksJ nm i (K.getD p kn0).2 head = 0) : MadeK nm (leaveK i p K) := by
 unfold leaveK
 split
 ·exact hM
 split
 ·exact made_arr hM _ _ (hM.at p)
 split
 ·rename_i ho
  exact made_arr (made_arr hM _ _ (made_ref hr (hM.at p) ha ho)) _ _ (made_ref hr (hM.at p) ha ho)
 ·rename_i ho
  exact made_arr hM _ _ (made_leaves hr (hM.at p) ha (wr_leaves hr _ ho false))
theorem made_rep (nm n : Nat) : MadeK nm (List.replicate n kn0) := fun p hp => by rw [List.eq_of_mem_replicate hp]; exact made_zero nm
theorem flat_rep_at (n j : Nat) (hj : j < n * 33) : (flatK (List.replicate n kn0))[j]? = zeroC[j % 33]? := by
 have h8 : Eight (List.replicate n kn0) := (made_rep 0 n).eight
 have := flatK_at h8 (k := j / 33) (j := j % 33) (by simp; omega) (by omega)
 rw [show j / 33 * 33 + j % 33 = j by omega] at this
 rw [this, show (List.replicate n kn0).getD (j / 33) kn0 = kn0 by simp [List.getD, List.getElem?_replicate]; split <;> rfl]
 rfl
theorem made_cells (n : Nat) : madeCells zeroC.toArray (n * 33) = (flatK (List.replicate n kn0)).toArray := by
 have h8 : Eight (List.replicate n kn0) := (made_rep 0 n).eight
 apply Array.ext_getElem?
 intro j
 by_cases hj : j < n * 33
 ·rw [show (flatK (List.replicate n kn0)).toArray[j]? = (flatK (List.replicate n kn0))[j]? from List.getElem?_toArray, flat_rep_at n j hj]
  have hz : zeroC.toArray.size = 33 := rfl
  simp only [madeCells, Array.getElem?_map]
  rw [Array.getElem?_range]
  simp only [hj, if_true, Option.map_some, hz]
  have hl : j % 33 < zeroC.length := by rw [zeroC_len]; omega
  rw [List.getElem?_eq_getElem hl]
  simp [hl]
 ·rw [Array.getElem?_eq_none (by rw [size_madeCells]; omega), show (flatK (List.replicate n kn0)).toArray[j]? = (flatK (List.replicate n kn0))[j]? from List.getElem?_toArray, List.getElem?_eq_none (by rw [flatK_len h8, List.length_replicate]; omega)]
theorem run_makeK (n : Nat) (hn : n <= 64) (w : World) : (Instr.makeSlice 84 (.int .i64 n) (.int .i64 n)).run Tryz.prog w = .ok (.slice (some ⟨w.heap.size, 0, none⟩) n n) (w.alloc (.cells (flatK (List.replicate n kn0)).toArray 138)) := by
 have hi : ∃ i, Tryz.prog.info? 138 = some i /\ i.size = 33 /\ i.zero = some (.agg zeroC.toArray) /\ i.bytes <= 1000000 := ⟨_, rfl, rfl, rfl, by decide⟩
 obtain ⟨i, h1, h2, h3, h4⟩ := hi
 have := run_make (P := Tryz.prog) w 84 138 i _ Tryz.underlying84 h1 h3 .i64 .i64 n n (by omega) (Int.le_refl _) (by have : (i.bytes : Int) * n <= 1000000 * 64 := Int.mul_le_mul (by omega) (by omega) (by omega) (by omega); omega) (by omega)
 rw [h2] at this
 simp only [Int.toNat_natCast, Value.cells] at this
 rw [made_cells] at this
 exact this
def Begun (w3 wc : World) (nm : Nat) (vl : Value) (cb co ccap : Nat) (xs : List In) (ls : List Lp) (v : Value) : Prop := ∃ qb kb, v = .pointer (some ⟨qb, 0, none⟩) /\ Inq w3 wc qb kb nm vl cb co ccap xs ls (List.replicate xs.length kn0)
theorem keepM2 {w w' : World} {x : Nat} {u v : Value} (h : w.cell? ⟨x, 0, none⟩ = some u /\ w.cell? ⟨x, 1, none⟩ = some v) (hb : Below w.heap.size w w') (hx : x < w.heap.size) : w'.cell? ⟨x, 0, none⟩ = some u /\ w'.cell? ⟨x, 1, none⟩ = some v := by
 rw [hb.cell (p := ⟨x, 0, none⟩) hx, hb.cell (p := ⟨x, 1, none⟩) hx]; exact h
set_option maxHeartbeats 6400000 in
theorem linq_run (vm : Value) (ms : List Int) (cb co ccap : Nat) (xs : List In) (w : World) (hm : Sees .i64 w vm ms) (hx : SeesI w (.slice (some ⟨cb, co, none⟩) xs.length ccap) xs) (hmf : Hid (mapsJ ms = true)) (hE : Hid (0 = errL xs)) :
  Calls Tryz.prog 29 #[.agg #[vm, .slice (some ⟨cb, co, none⟩) xs.length ccap]] w fun e w' =>
   (∃ (p : Nat) (E : Int), runK xs ms.length xs.length = .error (p, E) /\ E ≠ 0 /\ p < xs.length /\ e = .returned (.tuple #[.slice none 0 0, .int .i64 p, .int .i64 E]) /\ Below w.heap.size w w') ∨
   (∃ (K : Kn) (kb : Nat), runK xs ms.length xs.length = .ok K /\ e = .returned (.tuple #[.slice (some ⟨kb, 0, none⟩) xs.length xs.length, .int .i64 0, .int .i64 0]) /\ Hp w' kb 138 (flatK K) /\ w.heap.size <= kb /\ K.length = xs.length /\ MadeK ms.length K /\ Below w.heap.size w w') := by
 have hT : Taken xs := check_ok.1 hE.out.symm
 have HT := keepJ hT
 have HX := keepJ hx
 have HMS := keepJ hm
 obtain ⟨ma, mcap, rfl⟩ : ∃ a c, vm = .slice a ms.length c := by obtain ⟨a, c, h, _⟩ := hm; exact ⟨a, c, h⟩
 obtain ⟨nm, HNM⟩ : ∃ nm, Hid (ms.length = nm) := ⟨_, rfl⟩
 rw [HNM.out] at HMS ⊢
 obtain ⟨P, HP0⟩ : ∃ P, Hid (P = (checkL xs).1) := ⟨_, rfl⟩
 have h64 := hT.top
 have hx64 : (xs.length : Int) <= 64 := by omega
 have hpos : 0 < xs.length := hT.pos
 obtain ⟨W, HW, HBW, hWz, hWz2, m0, m1⟩ : ∃ W, Hid (W = w.alloc (Obj.cells #[.slice ma nm mcap, .slice (some ⟨cb, co, none⟩) xs.length ccap] 25)) /\ Hid (Below w.heap.size w W) /\ w.heap.size < W.heap.size /\ W.heap.size <= w.heap.size + 1 /\ W.cell? ⟨w.heap.size, 0, none⟩ = some (.slice ma nm mcap) /\ W.cell? ⟨w.heap.size, 1, none⟩ = some (.slice (some ⟨cb, co, none⟩) xs.length ccap) :=
  ⟨_, rfl, keepJ (by go_grown), by simp, by simp, by go_cell, by go_cell⟩
 have HXW := keepJ (HX.out.below HBW.out)
 have HMW := keepJ (HMS.out.below HBW.out (Nat.le_refl _))
 clear hx hm hT
 go_enter Tryz.func29, Tryz.ntmps29
 go_wp2_with (first
  | (go_at_call 52; rw [<- HW.out]; go_must (refine (lmapsFit_any _ ms _ HMW.out hmf).mono ?_); rintro e w' ⟨rfl, rfl⟩)
  | (go_at_call 53; go_must (refine (check_as HXW.out HP0 hE).mono ?_); rintro e w2 ⟨rfl, hb2⟩; go_must (have hS2 := keepM2 ⟨m0, m1⟩ hb2 hWz; have hz2 := hb2.size; have HX2 := keepJ (HXW.out.below hb2); clear m0 m1; obtain ⟨m0, m1⟩ := hS2))
  | (go_at_call 54; go_must (refine (lloops_any _ xs _ HX2.out hE).mono ?_); rintro e w3 ⟨u3, rfl, hown3, hb3⟩; go_must (have hS3 := keepM2 ⟨m0, m1⟩ hb3 (by omega); have hz3 := hb3.size; have HX3 := keepJ (HX2.out.below hb3); have HL3 := keepJ (own_seesL hown3); have HB3 := keepJ (HBW.out.trans ((hb2.trans (hb3.mono hz2)).mono HBW.out.size)); obtain ⟨la, lcap, rfl⟩ := own_shapeT hown3; clear m0 m1 hown3 hb2 hb3; obtain ⟨m0, m1⟩ := hS3)))
 -- THE REGION
 obtain ⟨ls, HLS, HLL⟩ : ∃ ls, Hid (loopsA xs = ls) /\ Hid (ls = loopsL xs) := ⟨_, rfl, by show _ = _; unfold loopsA; rw [if_pos hE.out.symm]⟩
 rw [HLS.out] at HL3 ⊢
 clear HLS
 obtain ⟨MC, HMC⟩ : ∃ MC, Hid (MC = flatK (List.replicate xs.length kn0)) := ⟨_, rfl⟩
 have hmk : ∀ wx : World, (Instr.makeSlice 84 (.int .i64 xs.length) (.int .i64 xs.length)).run Tryz.prog wx = .ok (.slice (some ⟨wx.heap.size, 0, none⟩) xs.length xs.length) (wx.alloc (.cells MC.toArray 138)) := fun wx => by rw [HMC.out]; exact run_makeK xs.length h64 wx
 have HP : Hid (∀ w', Below w3.heap.size w3 w' -> w'.cell? ⟨w.heap.size, 0, none⟩ = some (.slice ma nm mcap) /\ w'.cell? ⟨w.heap.size, 1, none⟩ = some (.slice (some ⟨cb, co, none⟩) xs.length ccap)) := fun w' hb' => keepM2 ⟨m0, m1⟩ hb' (by omega)
 go_cut [9] from 12 (fun v9 wc => Begun w3 wc nm (.slice la ls.length lcap) cb co ccap xs ls v9)
 case first =>
  clear m0 m1
  refine wp_region_held_drew (S := fun w' => w'.cell? ⟨w.heap.size, 0, none⟩ = some (.slice ma nm mcap) /\ w'.cell? ⟨w.heap.size, 1, none⟩ = some (.slice (some ⟨cb, co, none⟩) xs.length ccap)) (by kernel_rfl) (HP.out _ (Below.refl _ _).drew) (fun hHeld => ?_)
  refine tkGo [0, 1, 2, 3, 4, 5, 6, 7, 8] ?_
  repeat (refine tkO (v := ?_) rfl ?_ ?_; rotate_left; (intro wy hSw; (try dsimp only at hSw); go_simp; (first | done | with_reducible rfl)); try simp only [Act.put, p1q, p2q, p3q, p4q, p5q, p6q])
  refine tkEnd ?_
  refine runT 9 11 (by kernel_rfl) rfl rfl (by rfl) (by rfl) (fun KK hK => ?_) (fun KK hK => ?_)
  ·go_simp
   refine hK.out _ _ (HP.out _ ((Below.refl _ _).alloc (Nat.le_refl _) _).drew) (fun hHeld => ?_)
   clear hK KK
   try simp only [Act.put, p1q, p2q, p3q, p4q, p5q, p6q]
   refine tkGo [10] ?_
   repeat (refine tkO (v := ?_) rfl ?_ ?_; rotate_left; (intro wy hSw; (try dsimp only at hSw); go_simp; (first | done | with_reducible rfl)); try simp only [Act.put, p1q, p2q, p3q, p4q, p5q, p6q])
   refine tkEnd ?_
   refine runO 11 (by kernel_rfl) rfl (by rfl) (fun KK hK => ?_)
   go_simp
   obtain ⟨Y, HY, HqY, HkY, hbY, hzY⟩ : ∃ Y, Hid (Y = (w3.alloc (Obj.cells MC.toArray 138)).alloc (Obj.cells #[.int .i64 0, .slice none 0 0, .slice none 0 0, .slice none 0 0] 129)) /\ Hid (Hp Y (w3.heap.size + 1) 129 [.int .i64 0, .slice none 0 0, .slice none 0 0, .slice none 0 0]) /\ Hid (Hp Y w3.heap.size 138 MC) /\ Below w3.heap.size w3 Y /\ w3.heap.size + 2 <= Y.heap.size :=
    ⟨_, rfl, keepJ (by have := Hp.new (w3.alloc (Obj.cells MC.toArray 138)) [.int .i64 0, .slice none 0 0, .slice none 0 0, .slice none 0 0] 129; simpa using this), (Hp.new w3 MC _).alloc _, by go_grown, by simp⟩
   rw [<- HY.out]
   clear HY
   refine hK.out _ _ (HP.out _ hbY.drew) (fun hHeld => ?_)
   clear hK KK
   try simp only [Act.put, p1q, p2q, p3q, p4q, p5q, p6q]
   have n0 : Y.cell? ⟨(w3.heap.size + 1), 0, none⟩ = some (.int .i64 0) := HqY.out.cell rfl
   have n1 : Y.cell? ⟨(w3.heap.size + 1), 1, none⟩ = some (.slice none 0 0) := HqY.out.cell rfl
   have n2 : Y.cell? ⟨(w3.heap.size + 1), 2, none⟩ = some (.slice none 0 0) := HqY.out.cell rfl
   have n3 : Y.cell? ⟨(w3.heap.size + 1), 3, none⟩ = some (.slice none 0 0) := HqY.out.cell rfl
   have f0 := HqY.out.frozen 0
   have f1 := HqY.out.frozen 1
   have f2 := HqY.out.frozen 2
   have f3 := HqY.out.frozen 3
   refine runO 12 (by kernel_rfl) rfl (by rfl) (fun KK hK => ?_)
   go_simp
   clear n0 n1 n2 n3 f0 f1 f2 f3
   obtain ⟨V, HV, HqV, HkV, hbV⟩ : ∃ V, Hid (V = ((((Y.setCell ⟨(w3.heap.size + 1), 0, none⟩ (.int .i64 nm)).setCell ⟨(w3.heap.size + 1), 1, none⟩ (.slice (some ⟨cb, co, none⟩) xs.length ccap)).setCell ⟨(w3.heap.size + 1), 2, none⟩ (.slice la ls.length lcap)).setCell ⟨(w3.heap.size + 1), 3, none⟩ (.slice (some ⟨w3.heap.size, 0, none⟩) xs.length xs.length))) /\ Hid (Hp V (w3.heap.size + 1) 129 (qC nm (.slice (some ⟨cb, co, none⟩) xs.length ccap) (.slice la ls.length lcap) w3.heap.size xs.length)) /\ Hid (Hp V w3.heap.size 138 MC) /\ Below w3.heap.size w3 V := ⟨_, rfl, HqY.out.sets (qC nm (.slice (some ⟨cb, co, none⟩) xs.length ccap) (.slice la ls.length lcap) w3.heap.size xs.length) 0, HkY.out.fars (by omega) (qC nm (.slice (some ⟨cb, co, none⟩) xs.length ccap) (.slice la ls.length lcap) w3.heap.size xs.length) 0, hbY.trans (grown_to_below (grown_sets _ (qC nm (.slice (some ⟨cb, co, none⟩) xs.length ccap) (.slice la ls.length lcap) w3.heap.size xs.length) Y 0) (by omega) hbY.size)⟩
   rw [<- HV.out]
   clear HV
   refine hK.out _ _ (HP.out _ hbV.drew) (fun hHeld => ?_)
   clear hK KK
   try simp only [Act.put, p1q, p2q, p3q, p4q, p5q, p6q]
   refine wpAnyH_done (by kernel_rfl) ?_ _
   go_wp2
   go_meet
   case rel => exact ⟨(w3.heap.size + 1), w3.heap.size, rfl, hbV.drew, HqV.out.drew, by rw [<- HMC.out]; exact HkV.out.drew, by simp, by omega, by omega, by omega, (made_rep 0 _).eight, HX3.out, HL3.out⟩
  ·go_simp
   refine hK.out _ _ (HP.out _ ((Below.refl _ _).alloc (Nat.le_refl _) _).drew) (fun hHeld => ?_)
   clear hK KK
   try simp only [Act.put, p1q, p2q, p3q, p4q, p5q, p6q]
   refine runO 9 (by kernel_rfl) rfl (by rfl) (fun KK hK => ?_)
   go_simp
   obtain ⟨Y, HY, HqY, HkY, hbY, hzY⟩ : ∃ Y, Hid (Y = (w3.alloc (Obj.cells #[.int .i64 0, .slice none 0 0, .slice none 0 0, .slice none 0 0] 129)).alloc (Obj.cells MC.toArray 138)) /\ Hid (Hp Y w3.heap.size 129 [.int .i64 0, .slice none 0 0, .slice none 0 0, .slice none 0 0]) /\ Hid (Hp Y (w3.heap.size + 1) 138 MC) /\ Below w3.heap.size w3 Y /\ w3.heap.size + 2 <= Y.heap.size :=
    ⟨_, rfl, (Hp.new w3 [.int .i64 0, .slice none 0 0, .slice none 0 0, .slice none 0 0] _).alloc _, keepJ (by have := Hp.new (w3.alloc (Obj.cells #[.int .i64 0, .slice none 0 0, .slice none 0 0, .slice none 0 0] 129)) MC 138; simpa using this), by go_grown, by simp⟩
   rw [<- HY.out]
   clear HY
   refine hK.out _ _ (HP.out _ hbY.drew) (fun hHeld => ?_)
   clear hK KK
   try simp only [Act.put, p1q, p2q, p3q, p4q, p5q, p6q]
   refine tkGo [10] ?_
   repeat (refine tkO (v := ?_) rfl ?_ ?_; rotate_left; (intro wy hSw; (try dsimp only at hSw); go_simp; (first | done | with_reducible rfl)); try simp only [Act.put, p1q, p2q, p3q, p4q, p5q, p6q])
   refine tkEnd ?_
   have n0 : Y.cell? ⟨w3.heap.size, 0, none⟩ = some (.int .i64 0) := HqY.out.cell rfl
   have n1 : Y.cell? ⟨w3.heap.size, 1, none⟩ = some (.slice none 0 0) := HqY.out.cell rfl
   have n2 : Y.cell? ⟨w3.heap.size, 2, none⟩ = some (.slice none 0 0) := HqY.out.cell rfl
   have n3 : Y.cell? ⟨w3.heap.size, 3, none⟩ = some (.slice none 0 0) := HqY.out.cell rfl
   have f0 := HqY.out.frozen 0
   have f1 := HqY.out.frozen 1
   have f2 := HqY.out.frozen 2
   have f3 := HqY.out.frozen 3
   refine runO 12 (by kernel_rfl) rfl (by rfl) (fun KK hK => ?_)
   go_simp
   clear n0 n1 n2 n3 f0 f1 f2 f3
   obtain ⟨V, HV, HqV, HkV, hbV⟩ : ∃ V, Hid (V = ((((Y.setCell ⟨w3.heap.size, 0, none⟩ (.int .i64 nm)).setCell ⟨w3.heap.size, 1, none⟩ (.slice (some ⟨cb, co, none⟩) xs.length ccap)).setCell ⟨w3.heap.size, 2, none⟩ (.slice la ls.length lcap)).setCell ⟨w3.heap.size, 3, none⟩ (.slice (some ⟨(w3.heap.size + 1), 0, none⟩) xs.length xs.length))) /\ Hid (Hp V w3.heap.size 129 (qC nm (.slice (some ⟨cb, co, none⟩) xs.length ccap) (.slice la ls.length lcap) (w3.heap.size + 1) xs.length)) /\ Hid (Hp V (w3.heap.size + 1) 138 MC) /\ Below w3.heap.size w3 V := ⟨_, rfl, HqY.out.sets (qC nm (.slice (some ⟨cb, co, none⟩) xs.length ccap) (.slice la ls.length lcap) (w3.heap.size + 1) xs.length) 0, HkY.out.fars (by omega) (qC nm (.slice (some ⟨cb, co, none⟩) xs.length ccap) (.slice la ls.length lcap) (w3.heap.size + 1) xs.length) 0, hbY.trans (grown_to_below (grown_sets _ (qC nm (.slice (some ⟨cb, co, none⟩) xs.length ccap) (.slice la ls.length lcap) (w3.heap.size + 1) xs.length) Y 0) (by omega) hbY.size)⟩
   rw [<- HV.out]
   clear HV
   refine hK.out _ _ (HP.out _ hbV.drew) (fun hHeld => ?_)
   clear hK KK
   try simp only [Act.put, p1q, p2q, p3q, p4q, p5q, p6q]
   refine wpAnyH_done (by kernel_rfl) ?_ _
   go_wp2
   go_meet
   case rel => exact ⟨w3.heap.size, (w3.heap.size + 1), rfl, hbV.drew, HqV.out.drew, by rw [<- HMC.out]; exact HkV.out.drew, by simp, by omega, by omega, by omega, (made_rep 0 _).eight, HX3.out, HL3.out⟩
 case rest =>
  obtain ⟨qb, kb, rfl, hInq⟩ := hcut
  have HQ := keepJ hInq
  have hs0 : Made8 nm stZ := made_zero nm
  have HM0 := keepJ (made_rep nm xs.length)
  have H0 : Hid ((0 : Int) = ((0 : Nat) : Int)) := rfl
  clear hInq hmk HP m0 m1 HMC
  go_wp2_with (first
   | (go_at_call 55; go_must (refine (larrive_inq HQ.out H0 hpos true hs0 HM0.out).mono ?_); rintro e w5 ⟨rfl, hg5, hq5, hm5⟩; go_must (have HQ5 := keepJ hq5; have HM5 := keepJ hm5; have q1 : w5.cell? ⟨qb, 1, none⟩ = some (.slice (some ⟨cb, co, none⟩) xs.length ccap) := hq5.q.cell rfl; clear hg5 hq5 hm5)))
  clear q1
  go_loopw [48] (fun i wr => ∃ k : Nat, k <= xs.length /\ i = .int .i64 k /\ Hid (∃ K, runK xs nm k = .ok K /\ Inq w3 wr qb kb nm (.slice la ls.length lcap) cb co ccap xs ls K /\ MadeK nm K)) (fun i _ => xs.length - (intOf i).toNat)
  case atStart => exact ⟨0, by omega, rfl, _, rfl, HQ5.out, HM5.out⟩
  case round =>
   obtain ⟨k, hk, rfl, HI⟩ := hrel
   obtain ⟨K, hrun, hq, hM⟩ := HI.out
   have HRN := keepJ hrun
   have HQK := keepJ hq
   have HMK := keepJ hM
   have q3 : wr.cell? ⟨qb, 3, none⟩ = some (.slice (some ⟨kb, 0, none⟩) xs.length xs.length) := hq.q.cell rfl
   by_cases hlt : k < xs.length
   ·have hkI : (k : Int) < xs.length := by omega
    obtain ⟨r, s, HR⟩ : ∃ r s, Hid (K.getD k kn0 = (r, s)) := ⟨_, _, rfl⟩
    have k0 : wr.cell? ⟨kb, k * 33, none⟩ = some (.bool r) := (hq.k.state hq.e8 (by rw [hq.len]; exact hlt) HR.out).cell
    clear hrun hq hM HI
    cases r with
    | false =>
     have HN : Hid (runK xs nm (k + 1) = .ok K) := by show _ = _; rw [runK, HRN.out]; simp only [stepK]; rw [HR.out]; rfl
     go_wp2
     go_roundw
     case rel => exact ⟨k + 1, by omega, by go_num, K, HN.out, HQK.out, HMK.out⟩
     case measure => simp [intOf]; omega
    | true =>
     obtain ⟨E, HE⟩ : ∃ E, Hid (E = askE xs nm k (blurK xs k K)) := ⟨_, rfl⟩
     by_cases hE0 : E = 0
     ·subst hE0
      have HN : Hid (runK xs nm (k + 1) = .ok (leaveK (nth xs k) k (blurK xs k K))) := by show _ = _; rw [runK, HRN.out]; simp only [stepK]; rw [HR.out, if_neg (by simp), <- HE.out, if_neg (by simp)]
      go_wp2_with (first
       | (go_at_call 56; go_must (refine (lblur_any HQK.out HT.out HLL.out hlt HMK.out).mono ?_); rintro e w6 ⟨rfl, hq6⟩; go_must (have HQ6 : Hid (Inq w3 w6 qb kb nm (.slice la ls.length lcap) cb co ccap xs ls (blurK xs k K)) := (by have := hq6; rw [HLL.out] at this ⊢; exact this); have HM6 := keepJ (made_blurK (xs := xs) (p := k) HMK.out); clear hq6))
       | (go_at_call 57; go_must (refine (lask_any HQ6.out HT.out hlt HM6.out HE).mono ?_); rintro e w7 ⟨rfl, hb7⟩; go_must (have HQ7 := keepJ (HQ6.out.below hb7); clear hb7))
       | (go_at_call 58; go_must (refine (lleave_any HQ7.out HT.out hlt HM6.out HE.out.symm).mono ?_); rintro e w8 ⟨rfl, hq8⟩; go_must (have HQ8 := keepJ hq8; clear hq8)))
      go_roundw
      case rel => exact ⟨k + 1, by omega, by go_num, _, HN.out, HQ8.out, made_leaveK (HT.out.right hlt) HM6.out HE.out.symm⟩
      case measure => simp [intOf]; omega
     ·have HN : Hid (runK xs nm xs.length = .error (k, E)) := run_err (p := k + 1) (by rw [runK, HRN.out]; simp only [stepK]; rw [HR.out, if_neg (by simp), <- HE.out, if_pos hE0]) _ (by omega)
      go_wp2_with (first
       | (go_at_call 56; go_must (refine (lblur_any HQK.out HT.out HLL.out hlt HMK.out).mono ?_); rintro e w6 ⟨rfl, hq6⟩; go_must (have HQ6 : Hid (Inq w3 w6 qb kb nm (.slice la ls.length lcap) cb co ccap xs ls (blurK xs k K)) := (by have := hq6; rw [HLL.out] at this ⊢; exact this); have HM6 := keepJ (made_blurK (xs := xs) (p := k) HMK.out); clear hq6))
       | (go_at_call 57; go_must (refine (lask_any HQ6.out HT.out hlt HM6.out HE).mono ?_); rintro e w7 ⟨rfl, hb7⟩; go_must (have HQ7 := keepJ (HQ6.out.below hb7); clear hb7)))
      go_ret3
      exact .inl ⟨k, E, HN.out, hE0, hlt, rfl, HB3.out.trans (HQ7.out.b0.mono HB3.out.size)⟩
   ·obtain rfl : k = xs.length := by omega
    clear hrun hq hM HI
    go_wp2
    go_ret3
    exact .inr ⟨K, kb, HRN.out, rfl, HQK.out.k, Nat.le_trans HB3.out.size HQK.out.hk, HQK.out.len, HMK.out, HB3.out.trans (HQK.out.b0.mono HB3.out.size)⟩
theorem goes_jump {i : In} (hr : i.right = true) (ho : 15 <= i.op /\ i.op <= 19) : 1 <= i.far /\ i.leads = true := by
 rcases goes_parts i with h | h | h | h
 ·rw [hr] at h; cases h.1
 ·exact ⟨by omega, h.2.2.2.2.1⟩
 ·omega
 ·omega
theorem no_enter {xs : List In} (hT : Taken xs) {k : Nat} (hk : k < xs.length) (hl : (nth xs k).leads = true) {l : Lp} (hm : l ∈ loopsL xs) {x : Int} (hx : x = k + (nth xs k).far) (h1 : l.h < x) (h2 : x <= l.t) : l.h <= k /\ (k : Int) <= l.t := by
 have h := hT.intr k hk
 unfold intrB at h
 rw [hl, Bool.true_and, List.any_eq_false] at h
 have h3 := h l hm
 rw [enters_iff] at h3
 by_cases hc : l.h <= k /\ (k : Int) <= l.t
 ·exact hc
 ·exact absurd ⟨hc, by omega, by omega⟩ h3
theorem kn_set_ne {K : Kn} {p x : Nat} {y : Bool × St} (h : x ≠ p) : (K.set p y).getD x kn0 = K.getD x kn0 := by
 simp [List.getD, List.getElem?_set, h, Ne.symm h]
theorem arr_ne {K : Kn} {p x : Nat} {r : Bool} {s : St} (h : x ≠ p) : (arrK K p r s).getD x kn0 = K.getD x kn0 := by
 unfold arrK
 split
 ·rfl
 split
 ·exact kn_set_ne h
 ·exact kn_set_ne h
theorem kn_set_out {K : Kn} {p x : Nat} {y : Bool × St} (h : ¬ p < K.length) : (K.set p y).getD x kn0 = K.getD x kn0 := by
 rw [List.set_eq_of_length_le (by omega)]
theorem arr_keeps {K : Kn} {p x : Nat} {r : Bool} {s : St} (h : (K.getD x kn0).1 = true) : ((arrK K p r s).getD x kn0).1 = true := by
 by_cases hx : x = p
 ·subst hx
  unfold arrK
  split
  ·exact h
  rename_i hr
  by_cases hl : x < K.length
  ·split
   ·rename_i h2; rw [h] at h2; cases h2
   ·rw [kn_set hl]; exact h
  ·split
   ·rw [kn_set_out hl]; exact h
   ·rw [kn_set_out hl]; exact h
 ·rw [arr_ne hx]; exact h
theorem arr_from {K : Kn} {p x : Nat} {r : Bool} {s : St} (h : ((arrK K p r s).getD x kn0).1 = true) : (K.getD x kn0).1 = true ∨ x = p := by
 by_cases hx : x = p
 ·exact .inr hx
 ·rw [arr_ne hx] at h; exact .inl h
theorem blur_at {xs : List In} {p x : Nat} {K : Kn} : ((blurK xs p K).getD x kn0).1 = (K.getD x kn0).1 := by
 unfold blurK
 by_cases hx : x = p
 ·subst hx
  by_cases hl : x < K.length
  ·rw [kn_set hl]
  ·rw [kn_set_out hl]
 ·rw [kn_set_ne hx]
theorem blur_ne {xs : List In} {p x : Nat} {K : Kn} (h : x ≠ p) : (blurK xs p K).getD x kn0 = K.getD x kn0 := kn_set_ne h
theorem leave_low {xs : List In} {p x : Nat} {K : Kn} (hr : (nth xs p).right = true) (hx : x <= p) : (leaveK (nth xs p) p K).getD x kn0 = K.getD x kn0 := by
 have hg := goes_parts (nth xs p)
 unfold leaveK
 split
 ·rfl
 rename_i c22
 split
 ·rename_i c15
  refine arr_ne ?_
  have hf := (goes_jump hr (by omega)).1
  omega
 rename_i c15
 split
 ·rename_i c16
  have hf := (goes_jump hr (by omega)).1
  rw [arr_ne (by omega), arr_ne (by omega)]
 ·exact arr_ne (by omega)
theorem leave_keeps {i : In} {p x : Nat} {K : Kn} (h : (K.getD x kn0).1 = true) : ((leaveK i p K).getD x kn0).1 = true := by
 unfold leaveK
 split
 ·exact h
 split
 ·exact arr_keeps h
 split
 ·exact arr_keeps (arr_keeps h)
 ·exact arr_keeps h
theorem leave_from {xs : List In} {p x : Nat} {K : Kn} (hr : (nth xs p).right = true) (h : ((leaveK (nth xs p) p K).getD x kn0).1 = true) : (K.getD x kn0).1 = true ∨ x = p + 1 ∨ ((nth xs p).leads = true /\ (x : Int) = p + (nth xs p).far) := by
 have hg := goes_parts (nth xs p)
 unfold leaveK at h
 split at h
 ·exact .inl h
 split at h
 ·rename_i c15
  rcases arr_from h with h | h
  ·exact .inl h
  ·have hf := goes_jump hr (by omega)
   exact .inr (.inr ⟨hf.2, by omega⟩)
 split at h
 ·rename_i c16
  have hf := goes_jump hr (by omega)
  rcases arr_from h with h | h
  ·rcases arr_from h with h | h
   ·exact .inl h
   ·exact .inr (.inl h)
  ·exact .inr (.inr ⟨hf.2, by omega⟩)
 ·rcases arr_from h with h | h
  ·exact .inl h
  ·exact .inr (.inl h)
theorem run_step {xs : List In} {nm n : Nat} {K : Kn} (h : runK xs nm (n + 1) = .ok K) : ∃ K0, runK xs nm n = .ok K0 /\ stepK xs nm n K0 = .ok K := by
 rw [runK] at h
 cases h0 : runK xs nm n with
 | error e => rw [h0] at h; cases h
 | ok K0 =>
  rw [h0] at h
  simp only at h
  cases h1 : stepK xs nm n K0 with
  | error e => rw [h1] at h; cases h
  | ok K1 => rw [h1] at h; simp only at h; injection h with h; subst h; exact ⟨K0, rfl, h1⟩
theorem step_cases {xs : List In} {nm p : Nat} {K K' : Kn} (h : stepK xs nm p K = .ok K') : ((K.getD p kn0).1 = false /\ K' = K) ∨ ((K.getD p kn0).1 = true /\ askE xs nm p (blurK xs p K) = 0 /\ K' = leaveK (nth xs p) p (blurK xs p K)) := by
 unfold stepK at h
 split at h
 ·rename_i h1; injection h with h; exact .inl ⟨h1, h.symm⟩
 ·rename_i h1
  split at h
  ·cases h
  ·rename_i h2; injection h with h; exact .inr ⟨by simpa using h1, by simpa using h2, h.symm⟩
theorem run_heads {xs : List In} {nm : Nat} (hT : Taken xs) : ∀ {n : Nat} {K : Kn}, n <= xs.length -> runK xs nm n = .ok K -> (K.getD 0 kn0).1 = true /\ ∀ l ∈ loopsL xs, ∀ x : Nat, l.h < x -> (x : Int) <= l.t -> (K.getD x kn0).1 = true -> (K.getD l.h.toNat kn0).1 = true := by
 intro n
 induction n with
 | zero =>
  intro K _ h
  rw [runK] at h
  injection h with h
  subst h
  have hp := hT.pos
  refine ⟨?_, fun l hl x hx ht hk => ?_⟩
  ·unfold arrK
   rw [if_neg (by simp), if_pos (by simp [List.getD, List.getElem?_replicate, hp]; rfl), kn_set (by simp; exact hp)]
  ·rcases arr_from hk with hk | hk
   ·exfalso
    rw [show (List.replicate xs.length kn0).getD x kn0 = kn0 by simp [List.getD, List.getElem?_replicate]; split <;> rfl] at hk
    cases hk
   ·have := (hT.loops l hl).1
    omega
 | succ n ih =>
  intro K hn h
  obtain ⟨K0, h0, h1⟩ := run_step h
  obtain ⟨i0, i1⟩ := ih (by omega) h0
  have hr := hT.right (show n < xs.length by omega)
  rcases step_cases h1 with ⟨_, rfl⟩ | ⟨hn1, _, rfl⟩
  ·exact ⟨i0, i1⟩
  ·refine ⟨leave_keeps (by rw [blur_at]; exact i0), fun l hl x hx ht hk => leave_keeps (by
    rw [blur_at]
    have hlp := hT.loops l hl
    have hin : (K0.getD x kn0).1 = true ∨ x = n + 1 ∨ ((nth xs n).leads = true /\ (x : Int) = n + (nth xs n).far) := by
     rcases leave_from hr hk with h | h
     ·rw [blur_at] at h; exact .inl h
     ·exact .inr h
    rcases hin with h | h | h
    ·exact i1 l hl x hx ht h
    ·by_cases hnh : (n : Int) = l.h
     ·rw [<- hnh]; simpa using hn1
     ·exact i1 l hl n (by omega) (by omega) hn1
    ·have hin := no_enter hT (by omega) h.1 hl h.2 hx ht
     by_cases hnh : (n : Int) = l.h
     ·rw [<- hnh]; simpa using hn1
     ·exact i1 l hl n (by omega) hin.2 hn1)⟩
theorem joinS_len (C : List St) (n : Nat) : (joinS C n).length = n := by simp [joinS]
theorem joinS_at (C : List St) {n r : Nat} (hr : r < n) : (joinS C n).getD r Ty.nil = joinT (C.map fun s => s.getD r Ty.nil) := by
 unfold joinS
 simp [List.getD, List.getElem?_map, List.getElem?_range hr]
theorem st_ext {a b : St} (ha : a.length = 8) (hb : b.length = 8) (h : ∀ r, r < 8 -> a.getD r Ty.nil = b.getD r Ty.nil) : a = b := by
 apply List.ext_getElem (by omega)
 intro r h1 h2
 have := h r (by omega)
 rw [List.getD_eq_getElem?_getD, List.getD_eq_getElem?_getD, List.getElem?_eq_getElem h1, List.getElem?_eq_getElem h2] at this
 exact this
theorem joinS_one {nm : Nat} {s : St} (h : Made8 nm s) : joinS [s] 8 = s :=
 st_ext (joinS_len _ _) h.1 fun r hr => by rw [joinS_at _ hr]; exact joinT_one (h.get hr)
theorem made_joinS {nm : Nat} {C : List St} (hne : C ≠ []) (h : ∀ c ∈ C, Made8 nm c) : Made8 nm (joinS C 8) := by
 refine ⟨joinS_len _ _, fun t ht => ?_⟩
 obtain ⟨r, hr, rfl⟩ := List.mem_map.1 ht
 have hr8 := List.mem_range.1 hr
 refine made_join (by simpa using hne) fun u hu => ?_
 obtain ⟨c, hc, rfl⟩ := List.mem_map.1 hu
 exact (h c hc).get hr8
theorem joinS_snoc {nm : Nat} {C : List St} {s : St} (hne : C ≠ []) (h : ∀ c ∈ C, Made8 nm c) (hs : Made8 nm s) : joinS (C ++ [s]) 8 = joinU (joinS C 8) s 8 :=
 st_ext (joinS_len _ _) (joinU_len _ _ _) fun r hr => by
  rw [joinS_at _ hr, joinU_at _ _ hr, if_pos hr, joinS_at _ hr, List.map_append]
  refine joinT_snoc (nm := nm) (by simpa using hne) (fun u hu => ?_) (hs.get hr)
  obtain ⟨c, hc, rfl⟩ := List.mem_map.1 hu
  exact (h c hc).get hr
theorem join2_comm {nm : Nat} {a b : Ty} (ha : Made nm a) (hb : Made nm b) : join2 a b = join2 b a := by
 rw [join2_made ha hb, join2_made hb ha]
 by_cases h1 : a.k = 1 /\ b.k = 1
 ·rw [if_pos h1, if_pos ⟨h1.2, h1.1⟩, Int.min_comm, Int.max_comm]
 ·rw [if_neg h1, if_neg (show ¬ (b.k = 1 /\ a.k = 1) from fun h => h1 ⟨h.2, h.1⟩)]
  by_cases h2 : a.k = 2 /\ b.k = 2 /\ a.m = b.m
  ·rw [if_pos h2, if_pos ⟨h2.2.1, h2.1, h2.2.2.symm⟩, ty_eq]
   rcases ha with h | h | h <;> rcases hb with h' | h' | h' <;> omega
  ·rw [if_neg h2, if_neg (fun h => h2 ⟨h.2.1, h.1, h.2.2.symm⟩)]
theorem joinS_swap {nm : Nat} {C : List St} {a b : St} (h : ∀ c ∈ C, Made8 nm c) (ha : Made8 nm a) (hb : Made8 nm b) : joinS (C ++ [a] ++ [b]) 8 = joinS (C ++ [b] ++ [a]) 8 := by
 have hm : ∀ {x : St}, Made8 nm x -> ∀ c ∈ C ++ [x], Made8 nm c := fun {x} hx c hc => by
  rcases List.mem_append.1 hc with h1 | h1
  ·exact h c h1
  ·rw [List.mem_singleton.1 h1]; exact hx
 rw [joinS_snoc (by simp) (hm ha) hb, joinS_snoc (by simp) (hm hb) ha]
 refine st_ext (joinU_len _ _ _) (joinU_len _ _ _) fun r hr => ?_
 rw [joinU_at _ _ hr, joinU_at _ _ hr, if_pos hr, if_pos hr]
 by_cases hne : C = []
 ·subst hne
  rw [List.nil_append, List.nil_append, joinS_one ha, joinS_one hb]
  exact join2_comm (ha.get hr) (hb.get hr)
 ·rw [joinS_snoc hne h ha, joinS_snoc hne h hb, joinU_at _ _ hr, joinU_at _ _ hr, if_pos hr, if_pos hr]
  exact join2_swap ((made_joinS hne h).get hr) (ha.get hr) (hb.get hr)

def GoodK (K : Kn) (x : Nat) (C : List St) : Prop := ((K.getD x kn0).1 = true ↔ C ≠ []) /\ (C ≠ [] -> (K.getD x kn0).2 = joinS C 8)
theorem good_arr {nm : Nat} {K : Kn} {x p : Nat} {C : List St} {r : Bool} {s : St} (hp : p < K.length) (hg : GoodK K x C) (hC : ∀ c ∈ C, Made8 nm c) (hs : Made8 nm s) : GoodK (arrK K p r s) x (C ++ if x = p /\ r = true then [s] else []) := by
 by_cases hx : x = p
 ·subst hx
  cases r with
  | false => rw [if_neg (by simp), List.append_nil]; exact hg
  | true =>
   rw [if_pos ⟨rfl, rfl⟩]
   unfold arrK
   rw [if_neg (by simp)]
   by_cases hne : C = []
   ·subst hne
    have h1 : (K.getD x kn0).1 = false := by
     cases h : (K.getD x kn0).1 with
     | false => rfl
     | true => exact absurd rfl (hg.1.1 h)
    rw [if_pos h1]
    refine ⟨by rw [kn_set hp]; simp, fun _ => ?_⟩
    rw [kn_set hp, List.nil_append, joinS_one hs]
   ·have h1 := hg.1.2 hne
    rw [if_neg (by rw [h1]; simp)]
    refine ⟨by rw [kn_set hp, h1]; simp, fun _ => ?_⟩
    rw [kn_set hp, joinS_snoc hne hC hs, hg.2 hne]
 ·rw [if_neg (fun h => hx h.1), List.append_nil]
  unfold GoodK
  rw [arr_ne hx]
  exact hg
theorem good_swap {nm : Nat} {K : Kn} {x : Nat} {C A B : List St} (hC : ∀ c ∈ C, Made8 nm c) (hA : A = [] ∨ ∃ a, A = [a] /\ Made8 nm a) (hB : B = [] ∨ ∃ b, B = [b] /\ Made8 nm b) (h : GoodK K x (C ++ A ++ B)) : GoodK K x (C ++ B ++ A) := by
 rcases hA with rfl | ⟨a, rfl, ha⟩
 ·simpa using h
 rcases hB with rfl | ⟨b, rfl, hb⟩
 ·simpa using h
 refine ⟨?_, fun _ => ?_⟩
 ·have := h.1
  simpa using this
 ·rw [h.2 (by simp), joinS_swap hC ha hb]

theorem blurI_wide {nm : Nat} {xs : List In} {s : St} (h : Made8 nm s) (q : Nat) : blurI s (nth xs q) = wideQ xs s q := by
 unfold blurI wideQ
 split
 ·unfold blurT regT
  generalize (nth xs q).wr.1.toNat = r
  by_cases hr : r < 8
  ·have hm := h.get hr
   by_cases h1 : (s.getD r Ty.nil).k = 1
   ·rw [if_pos h1, if_pos h1]
   ·rw [if_neg h1, if_neg h1]
    by_cases h2 : (s.getD r Ty.nil).k = 2
    ·rw [if_pos h2]
    ·rw [if_neg h2]
     have e : s.getD r Ty.nil = Ty.nil := by
      rcases hm with h3 | h3 | h3
      ·exact ty_eq.2 ⟨h3.1, h3.2.1, h3.2.2.1, h3.2.2.2⟩
      ·omega
      ·omega
     rw [show s.set r Ty.nil = s.set r (s.getD r Ty.nil) by rw [e]]
     have hl : r < s.length := by rw [h.1]; exact hr
     rw [List.getD_eq_getElem?_getD, List.getElem?_eq_getElem hl]
     simp
  ·have hs : ∀ t, s.set r t = s := fun t => List.set_eq_of_length_le (by rw [h.1]; omega)
   rw [hs, hs, hs]
   split
   ·rfl
   ·split <;> rfl
 ·rfl
theorem seg_wide {nm : Nat} {xs : List In} {p : Nat} {s : St} (h : Made8 nm s) : ∀ n, p + n <= xs.length -> (segI xs p n).foldl blurI s = wideU xs s p n
 | 0, _ => rfl
 | n + 1, hn => by
  have e : segI xs p (n + 1) = segI xs p n ++ [nth xs (p + n)] := by
   unfold segI
   have hl : n < (xs.drop p).length := by rw [List.length_drop]; omega
   rw [List.take_add_one, List.getElem?_eq_getElem hl, List.getElem_drop]
   unfold nth
   rw [List.getD_eq_getElem?_getD, List.getElem?_eq_getElem (by omega)]
   rfl
  rw [e, List.foldl_append, seg_wide h n (by omega), wideU]
  exact blurI_wide (made_wideU h p n) _
theorem blur_widen {nm : Nat} {xs : List In} (hT : Taken xs) {p : Nat} {s : St} (h : Made8 nm s) : ∀ n, n <= xs.length -> (loopsU xs n).foldl (blurOne xs p) s = widen xs p s n
 | 0, _ => rfl
 | n + 1, hn => by
  rw [loopsU, List.foldl_append, blur_widen hT h n (by omega), widen]
  unfold lps headB
  by_cases h20 : (nth xs n).op = 20
  ·rw [if_pos h20, List.foldl_cons, List.foldl_nil]
   have hg : (nth xs n).far = -(nth xs n).d /\ 1 <= (nth xs n).d := by
    have hr := hT.right (show n < xs.length by omega)
    rcases goes_parts (nth xs n) with h | h | h | h
    ·rw [hr] at h; cases h.1
    ·omega
    ·exact ⟨h.2.2.1, h.2.2.2.2.2.1⟩
    ·omega
   have hm := made_widen (xs := xs) h p n
   unfold blurOne lpAt
   simp only
   by_cases hh : (n : Int) - (nth xs n).d = p
   ·rw [if_pos (by omega), if_pos (by rw [Bool.and_eq_true]; exact ⟨decide_eq_true h20, decide_eq_true hh⟩)]
    have hp : p < n := by omega
    rw [show ((n : Int) + 1 - (p : Int)).toNat = n + 1 - p by omega]
    exact seg_wide hm _ (by omega)
   ·rw [if_neg (by omega), if_neg (fun hc => hh (of_decide_eq_true (Bool.and_eq_true_iff.1 hc).2))]
  ·rw [if_neg h20, List.foldl_nil, if_neg (fun hc => h20 (of_decide_eq_true (Bool.and_eq_true_iff.1 hc).1))]
theorem blurAll_widen {nm : Nat} {xs : List In} (hT : Taken xs) {p : Nat} {s : St} (h : Made8 nm s) : blurAll xs p (loopsL xs) s = widen xs p s xs.length := blur_widen hT h _ (Nat.le_refl _)

def ledL (i : In) (p x : Nat) (s : St) : List St := if (i.leads && decide ((p : Int) + i.far = x)) = true then (leavesJ i s true).toList else []
def onL (i : In) (p x : Nat) (s : St) : List St := if (i.on && decide (p + 1 = x)) = true then (leavesJ i s false).toList else []
theorem one_leaves {nm : Nat} {i : In} {s head : St} (hr : i.right = true) (hs : Made8 nm s) (ha : asksJ nm i s head = 0) (b c : Bool) : (if c = true then (leavesJ i s b).toList else []) = [] ∨ ∃ a, (if c = true then (leavesJ i s b).toList else []) = [a] /\ Made8 nm a := by
 cases c with
 | false => exact .inl rfl
 | true =>
  rw [if_pos rfl]
  cases h : leavesJ i s b with
  | none => exact .inl rfl
  | some s' => exact .inr ⟨s', rfl, made_leaves hr hs ha h⟩
theorem leave_good {nm : Nat} {xs : List In} {p x : Nat} {K : Kn} {head : St} {C : List St} (hT : Taken xs) (hp : p < xs.length) (hl : K.length = xs.length) (hM : MadeK nm K) (hk : (K.getD p kn0).1 = true) (ha : asksJ nm (nth xs p) (K.getD p kn0).2 head = 0) (hx : p < x) (hg : GoodK K x C) (hC : ∀ c ∈ C, Made8 nm c) :
  GoodK (leaveK (nth xs p) p K) x (C ++ ledL (nth xs p) p x (K.getD p kn0).2 ++ onL (nth xs p) p x (K.getD p kn0).2) := by
 have hr := hT.right hp
 have hpl := place_ok hp (hT.place p hp)
 have hs := hM.at p
 have hgp := goes_parts (nth xs p)
 unfold leaveK
 generalize hi : nth xs p = i at *
 generalize hS : (K.getD p kn0).2 = s at *
 rw [hk]
 by_cases c22 : i.op = 22
 ·rw [if_pos c22]
  have : ledL i p x s = [] /\ onL i p x s = [] := by
   rcases hgp with h | h | h | h
   ·rw [hr] at h; cases h.1
   ·omega
   ·omega
   ·unfold ledL onL
    rw [h.2.2.2.1, h.2.2.2.2]
    simp [c22]
  rw [this.1, this.2]
  simpa using hg
 rw [if_neg c22]
 by_cases c15 : i.op = 15
 ·rw [if_pos c15]
  have hj := goes_jump hr (by omega)
  have hon : i.on = false := by
   rcases hgp with h | h | h | h
   ·rw [hr] at h; cases h.1
   ·rw [h.2.2.2.2.2.1]; simp [c15]
   ·omega
   ·omega
  have e1 : onL i p x s = [] := by unfold onL; rw [hon]; simp
  have e2 : ledL i p x s = if x = ((p : Int) + i.far).toNat /\ true = true then [s] else [] := by
   unfold ledL
   rw [hj.2]
   have e3 : leavesJ i s true = some s := by
    unfold leavesJ
    have h3 : ¬ threeB i.op = true := by unfold threeB; simp; omega
    have h4 : ¬ jumpB i.op = true := by unfold jumpB; simp; omega
    rw [if_neg (by omega), if_neg h3, if_neg (by omega), if_neg (by omega), if_neg (by omega), if_neg h4]
   rw [e3]
   by_cases hc : (p : Int) + i.far = x
   ·rw [if_pos (by simp [hc]), if_pos ⟨by omega, rfl⟩]; rfl
   ·rw [if_neg (by simp [hc]), if_neg (fun h => hc (by omega))]
  rw [e1, e2, List.append_nil]
  exact good_arr (by omega) hg hC hs
 rw [if_neg c15]
 by_cases c16 : 16 <= i.op /\ i.op <= 19
 ·rw [if_pos c16]
  have hj := goes_jump hr (by omega)
  have hon : i.on = true := by
   rcases hgp with h | h | h | h
   ·rw [hr] at h; cases h.1
   ·rw [h.2.2.2.2.2.1]; simp [c15]
   ·omega
   ·omega
  have e1 : onL i p x s = if x = p + 1 /\ (refS i true s false).1 = true then [(refS i true s false).2] else [] := by
   unfold onL
   rw [hon, ref_leaves s c16]
   by_cases hc : p + 1 = x
   ·subst hc
    cases h : leavesJ i s false <;> simp
   ·rw [if_neg (by simp [hc]), if_neg (fun h => hc h.1.symm)]
  have e2 : ledL i p x s = if x = ((p : Int) + i.far).toNat /\ (refS i true s true).1 = true then [(refS i true s true).2] else [] := by
   unfold ledL
   rw [hj.2, ref_leaves s c16]
   by_cases hc : (p : Int) + i.far = x
   ·have hc' : x = ((p : Int) + i.far).toNat := by omega
    rw [if_pos (by simp [hc])]
    cases h : leavesJ i s true with
    | none => simp
    | some s' => rw [if_pos ⟨hc', rfl⟩]; rfl
   ·rw [if_neg (by simp [hc]), if_neg (fun h => hc (by have := h.1; omega))]
  have o1 := one_leaves hr hs ha false (i.on && decide (p + 1 = x))
  have o2 := one_leaves hr hs ha true (i.leads && decide ((p : Int) + i.far = x))
  refine good_swap hC o1 o2 ?_
  change GoodK _ x (C ++ onL i p x s ++ ledL i p x s)
  have hCo : ∀ c ∈ C ++ onL i p x s, Made8 nm c := by
   intro c hc
   rcases List.mem_append.1 hc with h1 | h1
   ·exact hC c h1
   ·rcases o1 with h2 | ⟨a, h2, h3⟩
    ·have h1' : c ∈ ([] : List St) := by rw [<- h2]; exact h1
     cases h1'
    ·have h1' : c ∈ [a] := by rw [<- h2]; exact h1
     rw [List.mem_singleton.1 h1']; exact h3
  rw [e2]
  refine good_arr (nm := nm) (by rw [arrK_len]; omega) ?_ hCo (made_ref hr hs ha c16)
  rw [e1]
  exact good_arr (by have := hpl.2.2.2 hon; omega) hg hC (made_ref hr hs ha c16)
 rw [if_neg c16]
 have hon : i.on = true := by
  rcases hgp with h | h | h | h
  ·rw [hr] at h; cases h.1
  ·omega
  ·exact h.2.2.2.2.1
  ·rw [h.2.2.2.2]; simp [c22]
 have e1 : onL i p x s = if x = p + 1 /\ true = true then [wrS i s] else [] := by
  unfold onL
  rw [hon, wr_leaves hr s c16 false]
  by_cases hc : p + 1 = x
  ·rw [if_pos (by simp [hc]), if_pos ⟨hc.symm, rfl⟩]; rfl
  ·rw [if_neg (by simp [hc]), if_neg (fun h => hc h.1.symm)]
 have e2 : ledL i p x s = [] := by
  unfold ledL
  rcases hgp with h | h | h | h
  ·rw [hr] at h; cases h.1
  ·omega
  ·rw [if_neg (by simp; intro _; omega)]
  ·rw [h.2.2.2.1]; simp
 rw [e1, e2, List.append_nil]
 exact good_arr (by have := hpl.2.2.2 hon; omega) hg hC (made_leaves hr hs ha (wr_leaves hr s c16 false))

theorem comes_succ (xs : List In) (known : List St) (x n : Nat) : comesU xs known x (n + 1) = comesU xs known x n ++ stepC xs known x n := by
 unfold comesU
 rw [List.range_succ, List.flatMap_append, List.append_assoc]
 simp
theorem step_congr {xs : List In} {known known' : List St} {x q : Nat} (h : known.getD q [] = known'.getD q []) : stepC xs known x q = stepC xs known' x q := by
 unfold stepC
 rw [h]
theorem comes_congr {xs : List In} {known known' : List St} {x : Nat} : ∀ n, (∀ q, q < n -> known.getD q [] = known'.getD q []) -> comesU xs known x n = comesU xs known' x n
 | 0, _ => rfl
 | n + 1, h => by rw [comes_succ, comes_succ, comes_congr n (fun q hq => h q (by omega)), step_congr (h n (by omega))]
theorem getD_app_l {l m : List St} {q : Nat} (h : q < l.length) : (l ++ m).getD q [] = l.getD q [] := by
 simp [List.getD, List.getElem?_append_left h]
theorem getD_app_at {l : List St} {s : St} : (l ++ [s]).getD l.length [] = s := by
 simp [List.getD]
structure Pull (xs : List In) (nm n : Nat) (K : Kn) (known : List St) : Prop where
 len : known.length = n
 klen : K.length = xs.length
 made : MadeK nm K
 low : ∀ x, x < n -> known.getD x [] = if (K.getD x kn0).1 = true then (K.getD x kn0).2 else []
 high : ∀ x, n <= x -> x < xs.length -> GoodK K x (comesU xs known x n)
 cm : ∀ x, ∀ c ∈ comesU xs known x n, Made8 nm c
theorem pull_start {xs : List In} (nm : Nat) (hT : Taken xs) : Pull xs nm 0 (arrK (List.replicate xs.length kn0) 0 true stZ) [] := by
 have hr0 : ∀ x, (List.replicate xs.length kn0).getD x kn0 = kn0 := fun x => by simp [List.getD, List.getElem?_replicate]; split <;> rfl
 have hc : ∀ x, comesU xs [] x 0 = [] ++ if x = 0 /\ true = true then [stZ] else [] := fun x => by
  unfold comesU stZ
  by_cases h : x = 0
  ·subst h; rfl
  ·rw [if_neg h, if_neg (fun h' => h h'.1)]; rfl
 refine ⟨rfl, by rw [arrK_len]; simp, made_arr (made_rep nm _) _ _ (made_zero nm), fun x hx => by omega, fun x _ hx => ?_, fun x c h => ?_⟩
 ·rw [hc]
  refine good_arr (nm := nm) (by simpa using hT.pos) ⟨by rw [hr0]; simp [kn0], fun h => absurd rfl h⟩ (fun c h => by cases h) (made_zero nm)
 ·rw [hc] at h
  split at h
  ·have h' : c ∈ [stZ] := by simpa using h
   rw [List.mem_singleton.1 h']; exact made_zero nm
  ·simp at h
theorem asks_head {nm : Nat} {i : In} {s h h' : St} (hh : i.op = 20 -> h = h') : asksJ nm i s h = asksJ nm i s h' := by
 by_cases h20 : i.op = 20
 ·rw [hh h20]
 ·unfold asksJ
  simp only [h20, if_false]
theorem pull_at {xs : List In} {nm n : Nat} {K : Kn} {known : List St} (hT : Taken xs) (hn : n < xs.length) (h : Pull xs nm n K known) : atJ xs known n = if (K.getD n kn0).1 = true then ((blurK xs n K).getD n kn0).2 else [] := by
 have hg := h.high n (Nat.le_refl _) hn
 unfold atJ
 by_cases hne : comesU xs known n n = []
 ·rw [hne, if_pos (show ([] : List St).length = 0 from rfl), if_neg (fun h1 => (hg.1.1 h1) hne)]
 ·rw [if_neg (by simpa using hne), if_pos (hg.1.2 hne)]
  unfold blurK
  rw [kn_set (by rw [h.klen]; exact hn), hg.2 hne]
  exact (blurAll_widen hT (made_joinS hne (h.cm n))).symm
theorem pull_err {xs : List In} {nm n : Nat} {K : Kn} {known : List St} (hT : Taken xs) (hn : n < xs.length) (h : Pull xs nm n K known) (hrun : runK xs nm n = .ok K) (hk : (K.getD n kn0).1 = true) : errJ xs nm known (atJ xs known n) n = askE xs nm n (blurK xs n K) := by
 have e := pull_at hT hn h
 rw [if_pos hk] at e
 unfold errJ askE
 rw [e]
 have hm := made_blurK (xs := xs) (p := n) h.made
 have h8 := (hm.at n).1
 rw [if_neg (by omega)]
 refine asks_head fun h20 => ?_
 have hr := hT.right hn
 have hpl := place_ok hn (hT.place n hn)
 have hg : (nth xs n).far = -(nth xs n).d /\ 1 <= (nth xs n).d := by
  rcases goes_parts (nth xs n) with h | h | h | h
  ·rw [hr] at h; cases h.1
  ·omega
  ·exact ⟨h.2.2.1, h.2.2.2.2.2.1⟩
  ·omega
 unfold headJ
 rw [if_pos h20]
 have hq : ((n : Int) - (nth xs n).d).toNat < n := by omega
 rw [getD_app_l (by rw [h.len]; exact hq), h.low _ hq]
 have hml : lpAt xs n ∈ loopsL xs := loopsU_mem.2 ⟨n, hn, h20, rfl⟩
 have hhd := (run_heads hT (by omega) hrun).2 _ hml n (by show (n : Int) + (nth xs n).far < n; omega) (Int.le_refl _) hk
 have e2 : (lpAt xs n).h.toNat = ((n : Int) - (nth xs n).d).toNat := by show ((n : Int) + (nth xs n).far).toNat = _; omega
 rw [e2] at hhd
 rw [if_pos hhd, show ((n : Int) + (nth xs n).far).toNat = ((n : Int) - (nth xs n).d).toNat by omega, blur_ne (by omega)]
theorem pull_step {xs : List In} {nm n : Nat} {K K' : Kn} {known : List St} (hT : Taken xs) (hn : n < xs.length) (h : Pull xs nm n K known) (hs : stepK xs nm n K = .ok K') : Pull xs nm (n + 1) K' (known ++ [atJ xs known n]) := by
 have hr := hT.right hn
 have ea := pull_at hT hn h
 have hcong : ∀ x, comesU xs (known ++ [atJ xs known n]) x n = comesU xs known x n := fun x => comes_congr n fun q hq => getD_app_l (by rw [h.len]; exact hq)
 have hat : (known ++ [atJ xs known n]).getD n [] = atJ xs known n := by have := @getD_app_at known (atJ xs known n); rwa [h.len] at this
 rcases step_cases hs with ⟨hk, rfl⟩ | ⟨hk, ha, rfl⟩
 ·rw [hk, if_neg (by simp)] at ea
  have hst : ∀ x, stepC xs (known ++ [atJ xs known n]) x n = [] := fun x => by
   unfold stepC
   rw [hat, ea, if_pos (show ([] : St).length = 0 from rfl)]
  refine ⟨by simp [h.len], h.klen, h.made, fun x hx => ?_, fun x h1 h2 => ?_, fun x c hc => ?_⟩
  ·by_cases hxn : x = n
   ·subst hxn; rw [hat, ea, hk, if_neg (by simp)]
   ·rw [getD_app_l (by rw [h.len]; omega)]; exact h.low x (by omega)
  ·rw [comes_succ, hcong, hst, List.append_nil]; exact h.high x (by omega) h2
  ·rw [comes_succ, hcong, hst, List.append_nil] at hc; exact h.cm x c hc
 ·rw [if_pos hk] at ea
  have hmb := made_blurK (xs := xs) (p := n) h.made
  have hlb : (blurK xs n K).length = xs.length := by unfold blurK; rw [List.length_set]; exact h.klen
  have hkb : ((blurK xs n K).getD n kn0).1 = true := by rw [blur_at]; exact hk
  have hst : ∀ x, stepC xs (known ++ [atJ xs known n]) x n = ledL (nth xs n) n x ((blurK xs n K).getD n kn0).2 ++ onL (nth xs n) n x ((blurK xs n K).getD n kn0).2 := fun x => by
   unfold stepC
   rw [hat, ea, if_neg (by have := (hmb.at n).1; omega)]
   rfl
  have hgb : ∀ x, n < x -> x < xs.length -> GoodK (blurK xs n K) x (comesU xs known x n) := fun x h1 h2 => by
   have := h.high x (by omega) h2
   unfold GoodK at this ⊢
   rw [blur_ne (by omega)]
   exact this
  refine ⟨by simp [h.len], by rw [leaveK_len]; exact hlb, made_leaveK hr hmb ha, fun x hx => ?_, fun x h1 h2 => ?_, fun x c hc => ?_⟩
  ·rw [leave_low hr (by omega)]
   by_cases hxn : x = n
   ·subst hxn; rw [hat, ea, if_pos hkb]
   ·rw [getD_app_l (by rw [h.len]; omega), blur_ne hxn]; exact h.low x (by omega)
  ·rw [comes_succ, hcong, hst, <- List.append_assoc]
   exact leave_good hT hn hlb hmb hkb ha (by omega) (hgb x (by omega) h2) (h.cm x)
  ·rw [comes_succ, hcong, hst] at hc
   rcases List.mem_append.1 hc with h1 | h1
   ·exact h.cm x c h1
   ·rcases List.mem_append.1 h1 with h2 | h2
    ·rcases one_leaves hr (hmb.at n) ha true ((nth xs n).leads && decide ((n : Int) + (nth xs n).far = x)) with h3 | ⟨a, h3, h4⟩
     ·have h2' : c ∈ ([] : List St) := by rw [<- h3]; exact h2
      cases h2'
     ·have h2' : c ∈ [a] := by rw [<- h3]; exact h2
      rw [List.mem_singleton.1 h2']; exact h4
    ·rcases one_leaves hr (hmb.at n) ha false ((nth xs n).on && decide (n + 1 = x)) with h3 | ⟨a, h3, h4⟩
     ·have h2' : c ∈ ([] : List St) := by rw [<- h3]; exact h2
      cases h2'
     ·have h2' : c ∈ [a] := by rw [<- h3]; exact h2
      rw [List.mem_singleton.1 h2']; exact h4
theorem pull_run {xs : List In} {nm : Nat} (hT : Taken xs) : ∀ n, n <= xs.length -> (∃ e, runK xs nm n = .error e /\ runU xs nm n = .error ((e.1 : Int), e.2)) ∨ (∃ K known, runK xs nm n = .ok K /\ runU xs nm n = .ok known /\ Pull xs nm n K known)
 | 0, _ => .inr ⟨_, [], rfl, rfl, pull_start nm hT⟩
 | n + 1, hn => by
  rcases pull_run (nm := nm) hT n (by omega) with ⟨e, h1, h2⟩ | ⟨K, known, h1, h2, hP⟩
  ·exact .inl ⟨e, by rw [runK, h1], by rw [runU, h2]⟩
  ·have hn' : n < xs.length := by omega
   rw [runK, runU, h1, h2]
   simp only
   cases hs : stepK xs nm n K with
   | error E =>
    left
    unfold stepK at hs
    split at hs
    ·cases hs
    rename_i hk
    split at hs
    ·rename_i hE
     injection hs with hs
     have := pull_err hT hn' hP h1 (by simpa using hk)
     rw [this, if_neg hE, hs]
     exact ⟨_, rfl, rfl⟩
    ·cases hs
   | ok K' =>
    right
    have hE : errJ xs nm known (atJ xs known n) n = 0 := by
     rcases step_cases hs with ⟨hk, _⟩ | ⟨hk, ha, _⟩
     ·have := pull_at hT hn' hP
      rw [hk, if_neg (by simp)] at this
      unfold errJ
      rw [this, if_pos (show ([] : St).length = 0 from rfl)]
     ·rw [pull_err hT hn' hP h1 hk, ha]
    rw [if_pos hE]
    exact ⟨K', _, rfl, rfl, pull_step hT hn' hP hs⟩
def HoldT (t : Ty) (v : Int) : Prop := (t.k = 1 -> t.lo <= v /\ v <= t.hi) /\ (t.k = 2 -> v = t.m)
def HoldS (s : St) (R : List Int) : Prop := ∀ r, r < 8 -> HoldT (s.getD r Ty.nil) (R.getD r 0)
theorem hold_nil (v : Int) : HoldT Ty.nil v := ⟨fun h => (by cases h), fun h => (by cases h)⟩
theorem hold_full {v : Int} (hv : 0 <= v /\ v <= 18446744073709551615) : HoldT fullT v := ⟨fun _ => hv, fun h => (by cases h)⟩
theorem hold_num {lo hi v : Int} (h : lo <= v /\ v <= hi) : HoldT (num2 lo hi) v := ⟨fun _ => h, fun h => (by cases h)⟩
theorem HoldS.set {s : St} {R : List Int} (h : HoldS s R) (hs : s.length = 8) (hR : R.length = 8) {k : Nat} {t : Ty} {v : Int} (ht : HoldT t v) : HoldS (s.set k t) (R.set k v) := by
 intro r hr
 by_cases e : k = r
 ·subst e
  rw [show (s.set k t).getD k Ty.nil = t by simp [List.getD, List.getElem?_set, hs, hr], show (R.set k v).getD k 0 = v by simp [List.getD, List.getElem?_set, hR, hr]]
  exact ht
 ·rw [show (s.set k t).getD r Ty.nil = s.getD r Ty.nil by simp [List.getD, List.getElem?_set, e], show (R.set k v).getD r 0 = R.getD r 0 by simp [List.getD, List.getElem?_set, e]]
  exact h r hr
theorem HoldS.setT {s : St} {R : List Int} (h : HoldS s R) (hs : s.length = 8) {k : Nat} {t : Ty} (ht : HoldT t (R.getD k 0)) : HoldS (s.set k t) R := by
 intro r hr
 by_cases e : k = r
 ·subst e
  rw [show (s.set k t).getD k Ty.nil = t by simp [List.getD, List.getElem?_set, hs, hr]]
  exact ht
 ·rw [show (s.set k t).getD r Ty.nil = s.getD r Ty.nil by simp [List.getD, List.getElem?_set, e]]
  exact h r hr
theorem within_ends {a A b B : Int} (h : withinB a A b B = true) : b <= a /\ A <= B := by
 simp only [withinB, hasN, Bool.and_eq_true, decide_eq_true_eq] at h
 omega
theorem fits_hold {a b : Ty} {v : Int} (h : fitsJ a b = true) (ha : HoldT a v) : HoldT b v := by
 unfold fitsJ at h
 split at h
 ·rename_i h0
  exact ⟨fun h1 => by omega, fun h2 => by omega⟩
 split at h
 ·cases h
 rename_i h0 hk
 have hk : a.k = b.k := by omega
 split at h
 ·rename_i h1
  have := within_ends h
  have := ha.1 (by omega)
  exact ⟨fun _ => by omega, fun h2 => by omega⟩
 ·rename_i h1
  have e := of_decide_eq_true h
  exact ⟨fun h2 => by omega, fun h2 => by rw [ha.2 (by omega), e]⟩
theorem fitsAll_hold {s h : St} {R : List Int} (hf : fitsAll s h = true) (hs : HoldS s R) : HoldS h R := fun r hr => by
 unfold fitsAll at hf
 exact fits_hold ((List.all_eq_true.1 hf) r (List.mem_range.2 hr)) (hs r hr)
theorem joinT_hold {nm : Nat} {l : List Ty} {t : Ty} {v : Int} (hl : ∀ u ∈ l, Made nm u) (ht : t ∈ l) (h : HoldT t v) : HoldT (joinT l) v := by
 unfold joinT
 split
 ·rename_i ha
  have hx := (List.all_eq_true.1 ha) t ht
  simp only [likeB, Bool.and_eq_true, decide_eq_true_eq, Bool.not_eq_true', Bool.and_eq_false_iff, decide_eq_false_iff_not] at hx
  split
  ·rename_i h1
   have hb : joinB (spansT l) = true := by
    unfold joinB
    rw [Bool.and_eq_true]
    refine ⟨by cases l with | nil => cases ht | cons a b => rfl, List.all_eq_true.2 fun s hs => ?_⟩
    obtain ⟨u, hu, rfl⟩ := List.mem_map.1 hs
    have hk := (List.all_eq_true.1 ha) u hu
    simp only [likeB, Bool.and_eq_true, decide_eq_true_eq] at hk
    have hk1 := hk.1
    refine decide_eq_true ?_
    rcases hl u hu with h2 | h2 | h2 <;> (simp only; omega)
   have := join_holds hb (List.mem_map.2 ⟨t, ht, rfl⟩)
   simp only at this
   have h2 := h.1 (by omega)
   exact hold_num ⟨by omega, by omega⟩
  ·rename_i h1
   refine ⟨fun h2 => absurd h2 h1, fun h2 => ?_⟩
   have h3 := h.2 (by omega)
   have : t.m = (l.getD 0 Ty.nil).m := by
    rcases hx.2 with h4 | h4
    ·omega
    ·omega
   omega
 ·exact hold_nil v
theorem joinS_hold {nm : Nat} {C : List St} {c : St} {R : List Int} (hC : ∀ c ∈ C, Made8 nm c) (hc : c ∈ C) (h : HoldS c R) : HoldS (joinS C 8) R := fun r hr => by
 rw [joinS_at C hr]
 refine joinT_hold (nm := nm) (fun u hu => ?_) (List.mem_map.2 ⟨c, hc, rfl⟩) (h r hr)
 obtain ⟨d, hd, rfl⟩ := List.mem_map.1 hu
 exact (hC d hd).get hr
theorem wideQ_hold {xs : List In} {s : St} {R : List Int} {q : Nat} (hR : WR R) (hs : s.length = 8) (h : HoldS s R) : HoldS (wideQ xs s q) R := by
 unfold wideQ
 split
 ·split
  ·by_cases hr : (nth xs q).wr.1.toNat < 8
   ·exact h.setT hs (hold_full (hR.2 _ hr))
   ·rw [List.set_eq_of_length_le (by omega)]; exact h
  ·split
   ·exact h.setT hs (hold_nil _)
   ·exact h
 ·exact h
theorem wideU_hold {nm : Nat} {xs : List In} {s : St} {R : List Int} {p : Nat} (hR : WR R) (hs : Made8 nm s) (h : HoldS s R) : ∀ n, HoldS (wideU xs s p n) R
 | 0 => h
 | n + 1 => wideQ_hold hR (made_wideU hs p n).1 (wideU_hold hR hs h n)
theorem widen_hold {nm : Nat} {xs : List In} {s : St} {R : List Int} {p : Nat} (hR : WR R) (hs : Made8 nm s) (h : HoldS s R) : ∀ l, HoldS (widen xs p s l) R
 | 0 => h
 | l + 1 => by
  unfold widen
  split
  ·exact wideU_hold hR (made_widen hs p l) (widen_hold hR hs h l) _
  ·exact widen_hold hR hs h l
theorem src_hold {i : In} {s : St} {R : List Int} (h : HoldS s R) (hb : i.b = 8 ∨ (0 <= i.b /\ i.b <= 7)) : HoldT (srcT i s) (srcV i R) := by
 unfold srcT srcV
 split
 ·exact hold_num ⟨Int.le_refl _, Int.le_refl _⟩
 ·exact h _ (by omega)
theorem do_hold {nm : Nat} {op : Int} {a b : Ty} {x y : Int} (hop : 1 <= op /\ op <= 10) (ha : Made nm a) (hb : Made nm b) (ka : a.k = 1) (kb : b.k = 1) (hx : HoldT a x) (hy : HoldT b y) : HoldT (doT op a b) (doL op x y) := by
 have h1 : 0 <= a.lo /\ a.lo <= a.hi /\ a.hi <= 18446744073709551615 := by rcases ha with h | h | h <;> omega
 have h2 : 0 <= b.lo /\ b.lo <= b.hi /\ b.hi <= 18446744073709551615 := by rcases hb with h | h | h <;> omega
 unfold doT doR
 rw [if_pos ⟨hop, h1.2.1, h2.2.1⟩]
 exact hold_num (span_sound hop h1.1 h1.2.2 h2.1 h2.2.2 (hx.1 ka) (hy.1 kb))
theorem run_take {xs : List In} {nm : Nat} : ∀ {n : Nat} {known : List St}, runU xs nm n = .ok known -> ∀ x, x <= n -> runU xs nm x = .ok (known.take x) /\ known.length = n := by
 intro n
 induction n with
 | zero =>
  intro known h x hx
  obtain rfl : x = 0 := by omega
  rw [runU] at h
  injection h with h
  subst h
  exact ⟨rfl, rfl⟩
 | succ n ih =>
  intro known h x hx
  rw [runU] at h
  cases h0 : runU xs nm n with
  | error e => rw [h0] at h; cases h
  | ok k0 =>
   rw [h0] at h
   simp only at h
   split at h
   ·rename_i he
    injection h with h
    subst h
    obtain ⟨_, hl⟩ := ih h0 0 (by omega)
    refine ⟨?_, by simp [hl]⟩
    by_cases hxn : x = n + 1
    ·subst hxn
     rw [runU, h0]
     simp only
     rw [if_pos he, List.take_of_length_le (by simp [hl])]
    ·have := (ih h0 x (by omega)).1
     rw [this, List.take_append_of_le_length (by omega)]
   ·cases h
theorem run_at {xs : List In} {nm n : Nat} {known : List St} (h : runU xs nm n = .ok known) {x : Nat} (hx : x < n) : known.getD x [] = atJ xs (known.take x) x /\ errJ xs nm (known.take x) (known.getD x []) x = 0 := by
 have h1 := (run_take h (x + 1) (by omega)).1
 have h0 := (run_take h x (by omega)).1
 have hl := (run_take h x (by omega)).2
 rw [runU, h0] at h1
 simp only at h1
 split at h1
 ·rename_i he
  injection h1 with h1
  have e : known.getD x [] = atJ xs (known.take x) x := by
   have h2 : (known.take x ++ [atJ xs (known.take x) x]).getD x [] = (known.take (x + 1)).getD x [] := by rw [h1]
   rw [show (known.take (x + 1)).getD x [] = known.getD x [] by simp [List.getD, List.getElem?_take]] at h2
   rw [<- h2]
   have h3 : (known.take x).length = x := by rw [List.length_take]; omega
   have := @getD_app_at (known.take x) (atJ xs (known.take x) x)
   rw [h3] at this
   exact this
  exact ⟨e, by rw [e]; exact he⟩
 ·cases h1
theorem take_at9 {known : List St} {x q : Nat} (hq : q < x) : (known.take x).getD q [] = known.getD q [] := by simp [List.getD, List.getElem?_take, hq]
structure Known (xs : List In) (nm : Nat) (known : List St) : Prop where
 T : Taken xs
 run : runU xs nm xs.length = .ok known
theorem Known.pull {xs : List In} {nm : Nat} {known : List St} (h : Known xs nm known) {x : Nat} (hx : x <= xs.length) : ∃ K, runK xs nm x = .ok K /\ Pull xs nm x K (known.take x) := by
 have h0 := (run_take h.run x hx).1
 rcases pull_run (nm := nm) h.T x hx with ⟨e, h1, h2⟩ | ⟨K, k, h1, h2, hP⟩
 ·rw [h0] at h2; cases h2
 ·rw [h0] at h2; injection h2 with h2; subst h2; exact ⟨K, h1, hP⟩
theorem Known.made {xs : List In} {nm : Nat} {known : List St} (h : Known xs nm known) {p : Nat} (hp : p < xs.length) (hk : known.getD p [] ≠ []) : Made8 nm (known.getD p []) := by
 obtain ⟨K, _, hP⟩ := h.pull (Nat.le_refl _)
 rw [List.take_of_length_le (by rw [(run_take h.run 0 (by omega)).2]; exact Nat.le_refl _)] at hP
 have := hP.low p hp
 rw [this] at hk ⊢
 split
 ·exact hP.made.at p
 ·rename_i h1; rw [if_neg h1] at hk; exact absurd rfl hk
theorem Known.first {xs : List In} {nm : Nat} {known : List St} (h : Known xs nm known) : known.getD 0 [] ≠ [] /\ ∀ R, WR R -> HoldS (known.getD 0 []) R := by
 have hpos := h.T.pos
 have e := (run_at h.run hpos).1
 have hc : comesU xs (known.take 0) 0 0 = [List.replicate 8 Ty.nil] := rfl
 unfold atJ at e
 rw [hc, if_neg (by simp)] at e
 have hm : Made8 nm (joinS [List.replicate 8 Ty.nil] 8) := made_joinS (by simp) (fun c hc => by rw [List.mem_singleton.1 hc]; exact made_zero nm)
 refine ⟨fun h0 => ?_, fun R hR => ?_⟩
 ·have h1 := (made_widen (xs := xs) hm 0 xs.length).1
  rw [<- e, h0] at h1
  cases h1
 ·rw [e]
  refine widen_hold hR hm (joinS_hold (nm := nm) (fun c hc => by rw [List.mem_singleton.1 hc]; exact made_zero nm) (List.mem_singleton.2 rfl) fun r hr => ?_) _
  rw [show (List.replicate 8 Ty.nil).getD r Ty.nil = Ty.nil by rw [List.getD_eq_getElem?_getD, List.getElem?_replicate, if_pos hr]; rfl]
  exact hold_nil _
theorem Known.way {xs : List In} {nm : Nat} {known : List St} (h : Known xs nm known) {p x : Nat} (hx : x < xs.length) (hpx : p < x) (hk : known.getD p [] ≠ []) {b : Bool} (hw : (b = true /\ (nth xs p).leads = true /\ (p : Int) + (nth xs p).far = x) ∨ (b = false /\ (nth xs p).on = true /\ p + 1 = x)) {s' : St} (hl : leavesJ (nth xs p) (known.getD p []) b = some s') :
  known.getD x [] ≠ [] /\ ∀ R, WR R -> HoldS s' R -> HoldS (known.getD x []) R := by
 obtain ⟨K, h1, hP⟩ := h.pull (x := x) (by omega)
 have e := (run_at h.run hx).1
 have hmem : s' ∈ comesU xs (known.take x) x x := by
  unfold comesU
  refine List.mem_append_right _ (List.mem_flatMap.2 ⟨p, List.mem_range.2 hpx, ?_⟩)
  unfold stepC
  rw [take_at9 hpx, if_neg (fun h0 => hk (List.length_eq_zero_iff.1 h0))]
  rcases hw with ⟨rfl, h2, h3⟩ | ⟨rfl, h2, h3⟩
  ·refine List.mem_append_left _ ?_
   rw [h2, Bool.true_and, if_pos (decide_eq_true h3), hl]
   simp
  ·refine List.mem_append_right _ ?_
   rw [h2, Bool.true_and, if_pos (decide_eq_true h3), hl]
   simp
 have hne : comesU xs (known.take x) x x ≠ [] := fun h0 => by rw [h0] at hmem; cases hmem
 unfold atJ at e
 rw [if_neg (fun h0 => hne (List.length_eq_zero_iff.1 h0))] at e
 have hm := made_joinS hne (hP.cm x)
 refine ⟨fun h0 => ?_, fun R hR hS => ?_⟩
 ·have h2 := (made_widen (xs := xs) hm x xs.length).1
  rw [<- e, h0] at h2
  cases h2
 ·rw [e]
  exact widen_hold hR hm (joinS_hold (hP.cm x) hmem hS) _
theorem Known.asks {xs : List In} {nm : Nat} {known : List St} (h : Known xs nm known) {p : Nat} (hp : p < xs.length) (hk : known.getD p [] ≠ []) : asksJ nm (nth xs p) (known.getD p []) (headJ xs (known.take p) (known.getD p []) p) = 0 := by
 have := (run_at h.run hp).2
 unfold errJ at this
 rwa [if_neg (fun h0 => hk (List.length_eq_zero_iff.1 h0))] at this
theorem Known.back {xs : List In} {nm : Nat} {known : List St} (h : Known xs nm known) {p : Nat} (hp : p < xs.length) (hk : known.getD p [] ≠ []) (h20 : (nth xs p).op = 20) : ∃ q : Nat, (q : Int) = p + (nth xs p).far /\ q < p /\ known.getD q [] ≠ [] /\ ∀ R, HoldS (known.getD p []) R -> HoldS (known.getD q []) R := by
 obtain ⟨K, h1, hP⟩ := h.pull (x := p) (by omega)
 have hr := h.T.right hp
 have hpl := place_ok hp (h.T.place p hp)
 have hg : (nth xs p).far = -(nth xs p).d /\ 1 <= (nth xs p).d := by
  rcases goes_parts (nth xs p) with h | h | h | h
  ·rw [hr] at h; cases h.1
  ·omega
  ·exact ⟨h.2.2.1, h.2.2.2.2.2.1⟩
  ·omega
 have hq : ((p : Int) - (nth xs p).d).toNat < p := by omega
 have ha := h.asks hp hk
 have hne : comesU xs (known.take p) p p ≠ [] := fun h0 => by
  have e := (run_at h.run hp).1
  unfold atJ at e
  rw [h0, if_pos (show ([] : List St).length = 0 from rfl)] at e
  exact hk e
 have hkn := (hP.high p (Nat.le_refl _) hp).1.2 hne
 have hml : lpAt xs p ∈ loopsL xs := loopsU_mem.2 ⟨p, hp, h20, rfl⟩
 have hhd := (run_heads h.T (by omega) h1).2 _ hml p (by show (p : Int) + (nth xs p).far < p; omega) (Int.le_refl _) hkn
 have e2 : (lpAt xs p).h.toNat = ((p : Int) - (nth xs p).d).toNat := by show ((p : Int) + (nth xs p).far).toNat = _; omega
 rw [e2] at hhd
 have hlow := hP.low _ hq
 rw [take_at9 hq, if_pos hhd] at hlow
 have hhead : headJ xs (known.take p) (known.getD p []) p = known.getD ((p : Int) - (nth xs p).d).toNat [] := by
  unfold headJ
  rw [if_pos h20, getD_app_l (by rw [hP.len]; exact hq), take_at9 hq]
 rw [hhead] at ha
 refine ⟨((p : Int) - (nth xs p).d).toNat, by omega, hq, fun h0 => ?_, fun R hS => ?_⟩
 ·have h8 := (hP.made.at ((p : Int) - (nth xs p).d).toNat).1
  rw [<- hlow, h0] at h8
  cases h8
 ·unfold asksJ at ha
  rw [if_neg (by omega), if_neg (by omega), if_neg (by omega), if_neg (by omega), if_neg (by omega), if_pos h20] at ha
  split at ha
  ·cases ha
  split at ha
  ·rename_i hf; exact fitsAll_hold hf hS
  ·cases ha
structure Safe (xs : List In) (nm : Nat) (known : List St) (M : Mc) : Prop where
 pc : M.pc < xs.length
 kn : known.getD M.pc [] ≠ []
 wr : WR M.regs
 hold : HoldS (known.getD M.pc []) M.regs
 cnt : Cnt (loopsL xs) M.turn
 ws : W16 M.ws
 cs : W16 M.cs
 mode : M.mode = 0 ∨ (M.mode = 1 /\ (nth xs M.pc).op = 21 /\ (nth xs M.pc).imm <= 4) ∨ (M.mode = 2 /\ (nth xs M.pc).op = 22)
theorem safe_start {xs : List In} {nm : Nat} {known : List St} (h : Known xs nm known) : Safe xs nm known startE := by
 have hz : WR (List.replicate 8 0) := ⟨rfl, fun r hr => by rw [show (List.replicate 8 (0 : Int)).getD r 0 = 0 by rw [List.getD_eq_getElem?_getD, List.getElem?_replicate, if_pos hr]; rfl]; decide⟩
 have hw : W16 (List.replicate 16 0) := ⟨rfl, fun r hr => by rw [show (List.replicate 16 (0 : Int)).getD r 0 = 0 by rw [List.getD_eq_getElem?_getD, List.getElem?_replicate, if_pos hr]; rfl]; decide⟩
 exact ⟨h.T.pos, h.first.1, hz, h.first.2 _ hz, fun l hl => ⟨Int.le_refl _, by have := bnd_ok h.T.place l hl; show (0 : Int) <= l.b; omega⟩, hw, hw, .inl rfl⟩
theorem asks_word {nm : Nat} {i : In} {s head : St} {R : List Int} (hr : i.right = true) (hR : WR R) (hs : HoldS s R) (ha : asksJ nm i s head = 0) (ho : i.op = 11 ∨ i.op = 12) : 0 <= srcV i R /\ srcV i R <= 15 := by
 have hsr := right_src hr (.inl (show i.op <= 12 by omega))
 have hh := src_hold hs hsr.2
 have hin := srcV_in hR hsr.2
 have hA : srcA i s = srcT i s := by unfold srcA; rw [if_pos hsr.1]
 unfold asksJ at ha
 rw [if_neg (by omega), if_neg (by omega), if_neg (by omega), if_neg (by omega), hA] at ha
 rcases ho with h | h
 ·rw [if_pos h] at ha
  split at ha
  ·cases ha
  rename_i k1
  split at ha
  ·cases ha
  rename_i k2
  have := hh.1 (by omega)
  omega
 ·rw [if_neg (by omega), if_neg (by omega), if_neg (by omega)] at ha
  split at ha
  ·cases ha
  rename_i k1
  split at ha
  ·cases ha
  rename_i k2
  have := hh.1 (by omega)
  omega
theorem asks_two {nm : Nat} {i : In} {s head : St} (hr : i.right = true) (ha : asksJ nm i s head = 0) (ho : (1 <= i.op /\ i.op <= 10) ∨ (16 <= i.op /\ i.op <= 19)) : (regT s i.a).k = 1 /\ (srcT i s).k = 1 := by
 have hsr := right_src hr (show i.op <= 12 ∨ (16 <= i.op /\ i.op <= 19) by omega)
 have hA : srcA i s = srcT i s := by unfold srcA; rw [if_pos hsr.1]
 unfold asksJ at ha
 rw [if_neg (by omega), if_neg (by omega), if_neg (by omega), if_neg (by omega), if_neg (by omega), if_neg (by omega), if_neg (by omega), hA] at ha
 split at ha
 ·cases ha
 ·rename_i k1; omega
theorem fit_head {a t : Ty} {l ts : List Ty} (h : fitL (a :: l) (t :: ts) = 0) : a.k = t.k /\ (t.k = 1 -> withinB a.lo a.hi t.lo t.hi = true) := by
 have h1 : fitsL a t = 0 := by
  rw [fitL] at h
  split at h
  ·exact h
  ·rename_i h1; exact Decidable.not_not.1 h1
 unfold fitsL at h1
 split at h1
 ·cases h1
 rename_i hk
 split at h1
 ·cases h1
 rename_i hw
 refine ⟨by omega, fun h2 => ?_⟩
 cases hb : withinB a.lo a.hi t.lo t.hi with
 | true => rfl
 | false => exact absurd ⟨h2, hb⟩ hw
theorem asks_callE {nm : Nat} {i : In} {s head : St} {R : List Int} (hr : i.right = true) (h8 : Made8 nm s) (hR : WR R) (hs : HoldS s R) (ha : asksJ nm i s head = 0) (ho : i.op = 21) : (i.imm <= 4 -> 0 <= regV R 1 /\ regV R 1 < nm) /\ (i.imm = 5 -> 0 <= regV R 1 /\ regV R 1 <= 15) := by
 have hc := right_call hr ho
 unfold asksJ at ha
 rw [if_neg (by omega), if_neg (by omega), if_neg (by omega), if_pos ho] at ha
 have h1 := hs 1 (by omega)
 have m1 := h8.get (r := 1) (by omega)
 have w1 := hR.2 1 (by omega)
 have e1 : regV R 1 = R.getD 1 0 := rfl
 obtain ⟨s0, s1, s2, s3, s4, s5, s6, s7, rfl⟩ : ∃ a b c d e f g h, s = [a, b, c, d, e, f, g, h] := by
  have hl := h8.1
  match s, hl with
  | [a, b, c, d, e, f, g, h], _ => exact ⟨a, b, c, d, e, f, g, h, rfl⟩
 have g1 : [s0, s1, s2, s3, s4, s5, s6, s7].getD 1 Ty.nil = s1 := rfl
 rw [g1] at h1 m1
 unfold hcheckL at ha
 rw [if_neg (by omega)] at ha
 split at ha
 ·cases ha
 refine ⟨fun h4 => ?_, fun h5 => ?_⟩
 ·have hk : s1.k = 2 := by
   have hcase : i.imm = 0 ∨ i.imm = 1 ∨ i.imm = 2 ∨ i.imm = 3 ∨ i.imm = 4 := by omega
   rcases hcase with h | h | h | h | h
   ·rw [h] at ha; exact (fit_head (a := s1) (t := handleT) ha).1
   ·rw [h] at ha; exact (fit_head (a := s1) (t := handleT) ha).1
   ·rw [h] at ha; exact (fit_head (a := s1) (t := handleT) ha).1
   ·rw [h] at ha; exact (fit_head (a := s1) (t := handleT) ha).1
   ·rw [h] at ha; exact (fit_head (a := s1) (t := handleT) ha).1
  have h2 := h1.2 hk
  rcases m1 with h | h | h <;> omega
 ·rw [h5] at ha
  have hf := fit_head (a := s1) (t := numT 15) ha
  have hw := within_ends (hf.2 rfl)
  have h2 := h1.1 hf.1
  have h3 : (numT 15).hi = 15 := rfl
  omega
theorem res_hold {h E v : Int} {f : Bool} (hh : 0 <= h /\ h <= 4) (hv : 0 <= v /\ v <= 18446744073709551615) : HoldT (resL h).1 (valE h E f v) /\ (0 <= valE h E f v /\ valE h E f v <= 18446744073709551615) := by
 have hcase : h = 0 ∨ h = 1 ∨ h = 2 ∨ h = 3 ∨ h = 4 := by omega
 unfold valE
 rcases hcase with rfl | rfl | rfl | rfl | rfl
 ·exact ⟨⟨fun _ => hv, fun h => (by cases h)⟩, hv⟩
 ·rw [if_neg (by omega)]
  split
  ·exact ⟨⟨fun _ => ⟨by decide, by decide⟩, fun h => (by cases h)⟩, by decide, by decide⟩
  ·exact ⟨⟨fun _ => ⟨by decide, by decide⟩, fun h => (by cases h)⟩, by decide, by decide⟩
 ·rw [if_neg (by omega)]
  split
  ·exact ⟨⟨fun _ => ⟨by decide, by decide⟩, fun h => (by cases h)⟩, by decide, by decide⟩
  ·exact ⟨⟨fun _ => ⟨by decide, by decide⟩, fun h => (by cases h)⟩, by decide, by decide⟩
 ·rw [if_neg (by omega)]
  split
  ·exact ⟨⟨fun _ => ⟨by decide, by decide⟩, fun h => (by cases h)⟩, by decide, by decide⟩
  ·exact ⟨⟨fun _ => ⟨by decide, by decide⟩, fun h => (by cases h)⟩, by decide, by decide⟩
 ·exact ⟨⟨fun _ => hv, fun h => (by cases h)⟩, hv⟩
theorem lays_hold {nm : Nat} {ev : Int × Int} {i : In} {s head : St} {M : Mc} (hr : i.right = true) (h8 : Made8 nm s) (hR : WR M.regs) (hws : W16 M.ws) (hev : (0 <= ev.1 /\ ev.1 <= 18446744073709551615) /\ 0 <= ev.2 /\ ev.2 <= 18446744073709551615) (hs : HoldS s M.regs) (ha : asksJ nm i s head = 0) (ho : i.op <= 14 ∨ i.op = 20) :
  ∃ s', leavesJ i s false = some s' /\ HoldS s' (laysE ev i M).1 /\ WR (laysE ev i M).1 /\ W16 (laysE ev i M).2 := by
 have h0 := right_op hr
 unfold leavesJ laysE
 by_cases c0 : i.op = 0
 ·have hsr := right_src hr (.inl (show i.op <= 12 by omega))
  rw [if_pos c0, if_pos c0]
  exact ⟨_, rfl, hs.set h8.1 hR.1 (src_hold hs hsr.2), hR.set _ (srcV_in hR hsr.2), hws⟩
 rw [if_neg c0, if_neg c0]
 by_cases c1 : 1 <= i.op /\ i.op <= 10
 ·have hsr := right_src hr (.inl (show i.op <= 12 by omega))
  have hra := right_reads hr (.inl c1)
  obtain ⟨k1, k2⟩ := asks_two hr ha (.inl c1)
  rw [if_pos (show threeB i.op = true by unfold threeB; simp; omega), if_pos c1]
  have hd := do_hold (x := regV M.regs i.a) c1 (h8.reg hra) (made_src h8 hsr.2) k1 k2 (hs _ (by omega)) (src_hold hs hsr.2)
  exact ⟨_, rfl, hs.set h8.1 hR.1 hd, hR.set _ (doL_in i.op (hR.2 _ (by omega)) (srcV_in hR hsr.2)), hws⟩
 rw [if_neg (show ¬ threeB i.op = true by unfold threeB; simp; omega), if_neg c1]
 by_cases c2 : i.op = 11
 ·have hw := asks_word hr hR hs ha (.inl c2)
  have hv := hws.2 (srcV i M.regs).toNat (by omega)
  rw [if_pos (.inl c2), if_pos c2]
  exact ⟨_, rfl, hs.set h8.1 hR.1 (hold_full hv), hR.set _ hv, hws⟩
 rw [if_neg c2]
 by_cases c3 : i.op = 12
 ·have hra := right_reads hr (.inr (.inl c3))
  rw [if_neg (by omega), if_neg (by omega), if_neg (by omega), if_neg (show ¬ jumpB i.op = true by unfold jumpB; simp; omega), if_pos c3]
  exact ⟨_, rfl, hs, hR, hws.set _ (hR.2 _ (by omega))⟩
 rw [if_neg c3]
 by_cases c4 : i.op = 13
 ·rw [if_pos (.inr c4), if_pos c4]
  have hv : 0 <= (if i.imm = 0 then ev.1 else ev.2) /\ (if i.imm = 0 then ev.1 else ev.2) <= 18446744073709551615 := by split <;> omega
  exact ⟨_, rfl, hs.set h8.1 hR.1 (hold_full hv), hR.set _ hv, hws⟩
 rw [if_neg c4, if_neg (by omega)]
 by_cases c5 : i.op = 14
 ·rw [if_pos c5, if_pos c5]
  have hm : 0 <= i.imm /\ i.imm <= 18446744073709551615 := by
   obtain ⟨op, d, a, b, imm⟩ := i
   simp only at c5
   subst c5
   have h := hr
   unfold In.right at h
   rw [rightB_14] at h
   simp at h
   simp only
   omega
  exact ⟨_, rfl, hs.set h8.1 hR.1 ⟨fun h => (by cases h), fun _ => rfl⟩, hR.set _ hm, hws⟩
 rw [if_neg c5, if_neg c5, if_neg (by omega), if_neg (show ¬ jumpB i.op = true by unfold jumpB; simp; omega)]
 exact ⟨_, rfl, hs, hR, hws⟩
theorem three_no {op : Int} (h : ¬ (1 <= op /\ op <= 10)) : ¬ threeB op = true := by unfold threeB; simp; omega
theorem jump_no {op : Int} (h : ¬ (16 <= op /\ op <= 19)) : ¬ jumpB op = true := by unfold jumpB; simp; omega
theorem jump_yes {op : Int} (h : 16 <= op /\ op <= 19) : jumpB op = true := by unfold jumpB; simp; omega
theorem ref_hold {nm : Nat} {i : In} {s head : St} {R : List Int} (hr : i.right = true) (h8 : Made8 nm s) (hR : WR R) (hs : HoldS s R) (ha : asksJ nm i s head = 0) (ho : 16 <= i.op /\ i.op <= 19) :
  ∃ s', leavesJ i s (holdL i.op (regV R i.a) (srcV i R)) = some s' /\ HoldS s' R := by
 have hsr := right_src hr (.inr ho)
 have hra := right_reads hr (.inr (.inr (.inl (show 16 <= i.op /\ i.op <= 20 by omega))))
 obtain ⟨k1, k2⟩ := asks_two hr ha (.inr ho)
 have m1 := h8.reg hra
 have m2 := made_src h8 hsr.2
 have h1 : (regT s i.a).lo <= (regT s i.a).hi := by rcases m1 with h | h | h <;> omega
 have h2 : (srcT i s).lo <= (srcT i s).hi := by rcases m2 with h | h | h <;> omega
 have hx : HoldT (regT s i.a) (regV R i.a) := hs _ (by omega)
 have hy := src_hold hs hsr.2
 obtain ⟨l, u, e, h3, h4, _⟩ := refine_sound (h := holdL i.op (regV R i.a) (srcV i R)) ho (hx.1 k1) (hy.1 k2) rfl
 have er : refineR i.op (regT s i.a).lo (regT s i.a).hi (srcT i s).lo (srcT i s).hi (holdL i.op (regV R i.a) (srcV i R)) = some (l, u) := by
  unfold refineR
  rw [if_pos ⟨ho, h1, h2⟩]
  exact e
 refine ⟨s.set i.a.toNat (num2 l u), ?_, hs.setT h8.1 (hold_num ⟨h3, h4⟩)⟩
 unfold leavesJ
 rw [if_neg (by omega), if_neg (three_no (by omega)), if_neg (by omega), if_neg (by omega), if_neg (by omega), if_pos (jump_yes ho), er]
def pot (xs : List In) (M : Mc) : Int := M.steps + left (loopsL xs) M.pc M.turn xs.length - (if M.mode = 0 then 0 else 1)
theorem Safe.pot_le {xs : List In} {nm : Nat} {known : List St} {M : Mc} (hT : Taken xs) (h : Safe xs nm known M) : (M.steps : Int) + (if M.mode = 0 then 1 else 0) <= pot xs M := by
 have := left_pos h.cnt (bnd_ok hT.place) M.pc xs.length h.pc
 unfold pot
 split <;> omega
theorem pot_start {xs : List In} (hT : Taken xs) : pot xs startE <= costT (loopsL xs) xs.length := by
 have hb := bnd_ok hT.place
 have := left_cost (ls := loopsL xs) (p := 0) (c := fun _ => 0) (fun l hl => ⟨Int.le_refl _, by have := hb l hl; show (0 : Int) <= l.b; omega⟩) hb xs.length
 have e : pot xs startE = ((0 : Nat) : Int) + left (loopsL xs) 0 (fun _ => 0) xs.length - 0 := rfl
 rw [e]
 omega
theorem cost_256 {xs : List In} (hT : Taken xs) : costT (loopsL xs) xs.length <= 256 := by
 have h := costC_le (bnd_ok hT.place) xs.length
 have h2 := hT.cost
 have := h.2.2 h2
 omega
theorem safe_run {xs : List In} {ms : List Int} {known : List St} {ev : Int × Int} {M : Mc} (hK : Known xs ms.length known) (h : Safe xs ms.length known M) (h0 : M.mode = 0) (hev : (0 <= ev.1 /\ ev.1 <= 18446744073709551615) /\ 0 <= ev.2 /\ ev.2 <= 18446744073709551615) :
  Safe xs ms.length known (stepE ms xs ev M).2 /\ pot xs (stepE ms xs ev M).2 <= pot xs M /\ (stepE ms xs ev M).2.steps = M.steps + 1 := by
 have hT := hK.T
 have hr := hT.right h.pc
 have hpl := place_ok h.pc (hT.place M.pc h.pc)
 have hgp := goes_parts (nth xs M.pc)
 have hm := hK.made h.pc h.kn
 have ha := hK.asks h.pc h.kn
 have hop := right_op hr
 unfold stepE
 rw [if_neg (by omega), if_neg (by omega)]
 have hon : (nth xs M.pc).op ≠ 15 -> (nth xs M.pc).op ≠ 22 -> (nth xs M.pc).on = true := fun h15 h22 => by
  rcases hgp with h | h | h | h
  ·rw [hr] at h; cases h.1
  ·rw [h.2.2.2.2.2.1]; exact decide_eq_true h15
  ·exact h.2.2.2.2.1
  ·rw [h.2.2.2.2]; exact decide_eq_true h22
 /- on to the next place -/
 have next : ∀ (M' : Mc) (s' : St), leavesJ (nth xs M.pc) (known.getD M.pc []) false = some s' -> HoldS s' M'.regs -> WR M'.regs -> W16 M'.ws -> W16 M'.cs -> M'.mode = 0 -> M'.pc = M.pc + 1 -> M'.steps = M.steps + 1 -> (∀ t : Int, t ≠ M.pc -> M'.turn t = M.turn t) -> ((nth xs M.pc).op = 20 -> M'.turn M.pc = 0) -> (nth xs M.pc).op ≠ 15 -> (nth xs M.pc).op ≠ 22 ->
   Safe xs ms.length known M' /\ pot xs M' <= pot xs M /\ M'.steps = M.steps + 1 := by
  intro M' s' hl hs hw hws hcs hmode hpc hst ht h20 h15 h22
  have ho := hon h15 h22
  have hlt := hpl.2.2.2 ho
  obtain ⟨w1, w2⟩ := hK.way (x := M.pc + 1) hlt (by omega) h.kn (.inr ⟨rfl, ho, rfl⟩) hl
  obtain ⟨c1, _, _, c4⟩ := way_step hT (k' := (M.pc : Int) + 1) h.pc h.cnt ht (.inl ⟨rfl, h20, ho⟩)
  refine ⟨⟨by rw [hpc]; exact hlt, by rw [hpc]; exact w1, hw, by rw [hpc]; exact w2 _ hw hs, c1, hws, hcs, .inl hmode⟩, ?_, hst⟩
  unfold pot
  rw [hmode, h0, hpc, hst, show ((M.pc + 1 : Nat) : Int) = (M.pc : Int) + 1 by omega]
  simp only [if_true]
  omega
 by_cases c21 : (nth xs M.pc).op = 21
 ·rw [if_pos c21]
  have hc := right_call hr c21
  obtain ⟨a1, a2⟩ := asks_callE hr hm h.wr h.hold ha c21
  have hl : leavesJ (nth xs M.pc) (known.getD M.pc []) false = some ((known.getD M.pc []).set 0 (resL (nth xs M.pc).imm).1) := by
   unfold leavesJ
   rw [if_neg (by omega), if_neg (three_no (by omega)), if_neg (by omega), if_neg (by omega), if_pos c21]
  unfold callE
  by_cases c4 : (nth xs M.pc).imm <= 4
  ·rw [if_pos c4]
   refine ⟨⟨h.pc, h.kn, h.wr, h.hold, h.cnt, h.ws, h.cs, .inr (.inl ⟨rfl, c21, c4⟩)⟩, ?_, rfl⟩
   unfold pot
   simp only [h0, if_true]
   rw [if_neg (by omega)]
   omega
  rw [if_neg c4]
  by_cases c5 : (nth xs M.pc).imm = 5
  ·rw [if_pos c5]
   have hv := upW_in (M.cs.getD (regV M.regs 1).toNat 0) 1
   refine next _ _ hl (h.hold.set hm.1 h.wr.1 ?_) (h.wr.set _ hv) h.ws (h.cs.set _ hv) h0 rfl rfl (fun _ _ => rfl) (fun h20 => by omega) (by omega) (by omega)
   rw [c5]
   exact ⟨fun _ => hv, fun h => (by cases h)⟩
  ·rw [if_neg c5]
   have c6 : (nth xs M.pc).imm = 6 := by omega
   refine next _ _ hl (h.hold.set hm.1 h.wr.1 ?_) (h.wr.set _ (by decide)) h.ws h.cs h0 rfl rfl (fun _ _ => rfl) (fun h20 => by omega) (by omega) (by omega)
   rw [c6]
   exact ⟨fun _ => ⟨by decide, by decide⟩, fun h => (by cases h)⟩
 rw [if_neg c21]
 by_cases c22 : (nth xs M.pc).op = 22
 ·rw [if_pos c22]
  refine ⟨⟨h.pc, h.kn, h.wr, h.hold, h.cnt, h.ws, h.cs, .inr (.inr ⟨rfl, c22⟩)⟩, ?_, rfl⟩
  unfold pot
  simp only [h0, if_true]
  rw [if_neg (by omega)]
  omega
 rw [if_neg c22]
 cases hgo : ((nth xs M.pc).leads && goesE (nth xs M.pc) M) with
 | true =>
  rw [if_pos rfl]
  obtain ⟨hld, hge⟩ := Bool.and_eq_true_iff.1 hgo
  by_cases c20 : (nth xs M.pc).op = 20
  ·obtain ⟨q, hq, hqp, hqk, hqh⟩ := hK.back h.pc h.kn c20
   have hge2 : 0 < regV M.regs (nth xs M.pc).a /\ M.turn M.pc < (nth xs M.pc).imm := by
    unfold goesE at hge
    rw [if_neg (by omega), if_pos c20] at hge
    exact of_decide_eq_true hge
   have ht1 : ∀ t : Int, t ≠ M.pc -> turnE (nth xs M.pc) M t = M.turn t := fun t ht => by
    unfold turnE
    rw [if_pos c20]
    exact if_neg ht
   have ht2 : turnE (nth xs M.pc) M M.pc = M.turn M.pc + 1 := by
    unfold turnE
    rw [if_pos c20]
    exact (if_pos rfl).trans (if_pos hge)
   obtain ⟨c1, _, _, c4⟩ := way_step hT (k' := (M.pc : Int) + (nth xs M.pc).far) h.pc h.cnt ht1 (.inr (.inr ⟨rfl, c20, hge2.2, ht2⟩))
   have e : ((M.pc : Int) + (nth xs M.pc).far).toNat = q := by omega
   refine ⟨⟨by simp only [e]; omega, by simp only [e]; exact hqk, h.wr, by simp only [e]; exact hqh _ h.hold, c1, h.ws, h.cs, .inl h0⟩, ?_, rfl⟩
   unfold pot
   simp only [e, h0, if_true]
   rw [<- hq] at c4
   omega
  ·have h1519 : 15 <= (nth xs M.pc).op /\ (nth xs M.pc).op <= 19 := by
    rcases hgp with h | h | h | h
    ·rw [hr] at h; cases h.1
    ·omega
    ·exact absurd h.2.1 c20
    ·rw [h.2.2.2.1] at hld; cases hld
   have hj := goes_jump hr h1519
   obtain ⟨s', hl, hs'⟩ : ∃ s', leavesJ (nth xs M.pc) (known.getD M.pc []) true = some s' /\ HoldS s' M.regs := by
    by_cases c15 : (nth xs M.pc).op = 15
    ·refine ⟨known.getD M.pc [], ?_, h.hold⟩
     unfold leavesJ
     rw [if_neg (by omega), if_neg (three_no (by omega)), if_neg (by omega), if_neg (by omega), if_neg (by omega), if_neg (jump_no (by omega))]
    ·have := ref_hold hr hm h.wr h.hold ha (by omega)
     unfold goesE at hge
     rw [if_neg c15, if_neg c20] at hge
     rw [hge] at this
     exact this
   have ht : turnE (nth xs M.pc) M = M.turn := by unfold turnE; rw [if_neg c20]
   have hx : ((M.pc : Int) + (nth xs M.pc).far).toNat < xs.length := by omega
   obtain ⟨w1, w2⟩ := hK.way hx (show M.pc < ((M.pc : Int) + (nth xs M.pc).far).toNat by omega) h.kn (.inl ⟨rfl, hld, by omega⟩) hl
   obtain ⟨c1, _, _, c4⟩ := way_step hT (k' := (M.pc : Int) + (nth xs M.pc).far) h.pc h.cnt (c' := M.turn) (fun _ _ => rfl) (.inr (.inl ⟨rfl, hld, c20⟩))
   refine ⟨⟨hx, w1, h.wr, w2 _ h.wr hs', by simp only [ht]; exact c1, h.ws, h.cs, .inl h0⟩, ?_, rfl⟩
   unfold pot
   simp only [h0, if_true, ht]
   rw [show ((((M.pc : Int) + (nth xs M.pc).far).toNat : Nat) : Int) = (M.pc : Int) + (nth xs M.pc).far by omega]
   omega
 | false =>
  rw [if_neg (by simp)]
  have c15 : (nth xs M.pc).op ≠ 15 := fun c15 => by
   have hj := goes_jump hr (by omega)
   rw [hj.2, Bool.true_and] at hgo
   unfold goesE at hgo
   rw [if_pos c15] at hgo
   cases hgo
  have ht1 : ∀ t : Int, t ≠ M.pc -> turnE (nth xs M.pc) M t = M.turn t := fun t ht => by
   unfold turnE
   split
   ·exact if_neg ht
   ·rfl
  have ht2 : (nth xs M.pc).op = 20 -> turnE (nth xs M.pc) M M.pc = 0 := fun c20 => by
   have hld : (nth xs M.pc).leads = true := by
    rcases hgp with h | h | h | h
    ·rw [hr] at h; cases h.1
    ·omega
    ·exact h.2.2.2.1
    ·omega
   rw [hld, Bool.true_and] at hgo
   unfold turnE
   rw [if_pos c20]
   exact (if_pos rfl).trans (if_neg (by rw [hgo]; simp))
  by_cases c16 : 16 <= (nth xs M.pc).op /\ (nth xs M.pc).op <= 19
  ·have hj := goes_jump hr (by omega)
   rw [hj.2, Bool.true_and] at hgo
   unfold goesE at hgo
   rw [if_neg c15, if_neg (by omega)] at hgo
   obtain ⟨s', hl, hs'⟩ := ref_hold hr hm h.wr h.hold ha c16
   rw [hgo] at hl
   have hly : laysE ev (nth xs M.pc) M = (M.regs, M.ws) := by
    unfold laysE
    rw [if_neg (by omega), if_neg (by omega), if_neg (by omega), if_neg (by omega), if_neg (by omega), if_neg (by omega)]
   rw [hly]
   exact next { M with turn := turnE (nth xs M.pc) M, steps := M.steps + 1, pc := M.pc + 1 } s' hl hs' h.wr h.ws h.cs h0 rfl rfl ht1 ht2 c15 c22
  ·obtain ⟨s', hl, hs', hw', hws'⟩ := lays_hold hr hm h.wr h.ws hev h.hold ha (by omega)
   exact next _ s' hl hs' hw' hws' h.cs h0 rfl rfl ht1 ht2 c15 c22
theorem safe_answer {xs : List In} {nm : Nat} {known : List St} {M : Mc} (hK : Known xs nm known) (h : Safe xs nm known M) (h1 : M.mode = 1) {E v : Int} {f : Bool} (hv : 0 <= v /\ v <= 18446744073709551615) :
  Safe xs nm known (answerE xs M E f v) /\ pot xs (answerE xs M E f v) <= pot xs M /\ (answerE xs M E f v).steps = M.steps := by
 have hT := hK.T
 have hr := hT.right h.pc
 have hpl := place_ok h.pc (hT.place M.pc h.pc)
 have hm := hK.made h.pc h.kn
 obtain ⟨_, c21, c4⟩ : M.mode = 1 /\ (nth xs M.pc).op = 21 /\ (nth xs M.pc).imm <= 4 := by
  rcases h.mode with h2 | h2 | h2
  ·omega
  ·exact h2
  ·omega
 have hc := right_call hr c21
 have ho : (nth xs M.pc).on = true := by
  rcases goes_parts (nth xs M.pc) with h | h | h | h
  ·rw [hr] at h; cases h.1
  ·omega
  ·omega
  ·rw [h.2.2.2.2]; exact decide_eq_true (by omega)
 have hlt := hpl.2.2.2 ho
 have hl : leavesJ (nth xs M.pc) (known.getD M.pc []) false = some ((known.getD M.pc []).set 0 (resL (nth xs M.pc).imm).1) := by
  unfold leavesJ
  rw [if_neg (by omega), if_neg (three_no (by omega)), if_neg (by omega), if_neg (by omega), if_pos c21]
 obtain ⟨r1, r2⟩ := res_hold (E := E) (f := f) ⟨hc.1, c4⟩ hv
 have hw := h.wr.set 0 r2
 obtain ⟨w1, w2⟩ := hK.way (x := M.pc + 1) hlt (by omega) h.kn (.inr ⟨rfl, ho, rfl⟩) hl
 obtain ⟨c1, _, _, c5⟩ := way_step hT (k' := (M.pc : Int) + 1) h.pc h.cnt (c' := M.turn) (fun _ _ => rfl) (.inl ⟨rfl, fun h20 => by omega, ho⟩)
 refine ⟨⟨hlt, w1, hw, w2 _ hw (h.hold.set hm.1 h.wr.1 r1), c1, h.ws, h.cs, .inl rfl⟩, ?_, rfl⟩
 unfold pot answerE
 simp only [if_true, h1]
 rw [if_neg (by omega), show ((M.pc + 1 : Nat) : Int) = (M.pc : Int) + 1 by omega]
 omega
def inqR (ms : List Int) (xs : List In) : Except (Int × Int) Kn :=
 if mapsJ ms = false then .error (0, 2) else if errL xs ≠ 0 then .error ((checkL xs).1, errL xs)
 else match runK xs ms.length xs.length with
  | .error e => .error (e.1, e.2)
  | .ok K => .ok K
def judgeR (ms : List Int) (xs : List In) : Int × Int := match inqR ms xs with | .error e => e | .ok _ => (0, 0)
theorem first_lt {p : Nat -> Bool} {n k : Nat} (h : first p n = some k) : k < n := by
 unfold first at h
 exact List.mem_range.1 (List.mem_of_find?_eq_some h)
theorem crossF_mem : ∀ (r prev : List Lp) (t : Int), crossF prev r = some t -> ∃ l ∈ r, l.t = t
 | [], prev, t, h => by simp [crossF] at h
 | x :: r, prev, t, h => by
  rw [crossF] at h
  split at h
  ·injection h with h; exact ⟨x, by simp, h⟩
  ·obtain ⟨l, hl, e⟩ := crossF_mem r _ t h; exact ⟨l, by simp [hl], e⟩
theorem check_place (xs : List In) : 0 <= (checkL xs).1 /\ ((checkL xs).1 = 0 ∨ (checkL xs).1 < xs.length) := by
 unfold checkL
 split
 ·exact ⟨by decide, .inl rfl⟩
 split
 ·exact ⟨by decide, .inl rfl⟩
 split
 ·rename_i k hk
  have := first_lt hk
  exact ⟨by simp, .inr (by simp; omega)⟩
 split
 ·rename_i t ht
  obtain ⟨l, hl, rfl⟩ := crossF_mem _ _ _ ht
  obtain ⟨k, hk, _, rfl⟩ := loopsU_mem.1 hl
  exact ⟨by simp [lpAt], .inr (by simp [lpAt]; omega)⟩
 split
 ·rename_i k hk
  have := first_lt hk
  exact ⟨by simp, .inr (by simp; omega)⟩
 split
 ·exact ⟨by decide, .inl rfl⟩
 ·exact ⟨by decide, .inl rfl⟩
set_option maxHeartbeats 800000 in
theorem linq_maps (vm vc : Value) (ms : List Int) (w : World) (hm : Sees .i64 w vm ms) (hmf : Hid (mapsJ ms = false)) :
  Calls Tryz.prog 29 #[.agg #[vm, vc]] w fun e w' => e = .returned (.tuple #[.slice none 0 0, .int .i64 0, .int .i64 2]) /\ Below w.heap.size w w' := by
 have HM := keepJ hm
 obtain ⟨ma, mcap, rfl⟩ : ∃ a c, vm = .slice a ms.length c := by obtain ⟨a, c, h, _⟩ := hm; exact ⟨a, c, h⟩
 go_enter Tryz.func29, Tryz.ntmps29
 go_wp2_with (go_at_call 52; go_must (refine (lmapsFit_any _ ms _ (HM.out.below ((Below.refl _ _).alloc (Nat.le_refl _) _) (Nat.le_refl _)) hmf).mono ?_); rintro e w' ⟨rfl, rfl⟩)
 go_ret3
 exact ⟨rfl, by go_grown⟩
set_option maxHeartbeats 800000 in
theorem linq_flow (vm : Value) (ms : List Int) (vc : Value) (xs : List In) (w : World) (hm : Sees .i64 w vm ms) (hx : SeesI w vc xs) (hmf : Hid (mapsJ ms = true)) {P E : Int} (hP : Hid (P = (checkL xs).1)) (hE : Hid (E = errL xs)) (hE0 : E ≠ 0) :
  Calls Tryz.prog 29 #[.agg #[vm, vc]] w fun e w' => e = .returned (.tuple #[.slice none 0 0, .int .i64 P, .int .i64 E]) /\ Below w.heap.size w w' := by
 have HM := keepJ hm
 have HX := keepJ hx
 obtain ⟨ma, mcap, rfl⟩ : ∃ a c, vm = .slice a ms.length c := by obtain ⟨a, c, h, _⟩ := hm; exact ⟨a, c, h⟩
 obtain ⟨ca, ccap, rfl⟩ : ∃ a c, vc = .slice a xs.length c := by obtain ⟨a, c, h, _⟩ := hx; exact ⟨a, c, h⟩
 have hE1 : ¬ E = 0 := hE0
 clear hm hx hE0
 go_enter Tryz.func29, Tryz.ntmps29
 go_wp2_with (first
  | (go_at_call 52; go_must (refine (lmapsFit_any _ ms _ (HM.out.below ((Below.refl _ _).alloc (Nat.le_refl _) _) (Nat.le_refl _)) hmf).mono ?_); rintro e w' ⟨rfl, rfl⟩)
  | (go_at_call 53; go_must (refine (check_as (HX.out.below ((Below.refl _ _).alloc (Nat.le_refl _) _)) hP hE).mono ?_); rintro e w2 ⟨rfl, hb2⟩; go_must (have hB2 := box_below hb2; clear hb2)))
 go_ret3
 exact ⟨rfl, hB2⟩
theorem linquire_any (vm : Value) (ms : List Int) (vc : Value) (xs : List In) (w : World) (hm : Sees .i64 w vm ms) (hx : SeesI w vc xs) :
  Calls Tryz.prog 29 #[.agg #[vm, vc]] w fun e w' =>
   (∃ P E : Int, inqR ms xs = .error (P, E) /\ E ≠ 0 /\ (0 <= P /\ (P = 0 ∨ P < xs.length)) /\ e = .returned (.tuple #[.slice none 0 0, .int .i64 P, .int .i64 E]) /\ Below w.heap.size w w') ∨
   (∃ (K : Kn) (kb : Nat), inqR ms xs = .ok K /\ Taken xs /\ mapsJ ms = true /\ runK xs ms.length xs.length = .ok K /\ e = .returned (.tuple #[.slice (some ⟨kb, 0, none⟩) xs.length xs.length, .int .i64 0, .int .i64 0]) /\ Hp w' kb 138 (flatK K) /\ w.heap.size <= kb /\ K.length = xs.length /\ MadeK ms.length K /\ Below w.heap.size w w') := by
 unfold inqR
 cases hmf : mapsJ ms with
 | false =>
  refine (linq_maps vm vc ms w hm hmf).mono ?_
  rintro e w' ⟨rfl, hb⟩
  exact .inl ⟨0, 2, by simp, by decide, ⟨by decide, .inl rfl⟩, rfl, hb⟩
 | true =>
  by_cases hE : errL xs = 0
  ·have hT : Taken xs := check_ok.1 hE
   obtain ⟨a, cap, hv, h1, h2, h3, h4⟩ := id hx
   obtain ⟨b, off, rfl, hlt, hat⟩ := h4 (fun e => by have := hT.pos; rw [e] at this; simp at this)
   subst hv
   refine (linq_run vm ms b off cap xs w hm hx hmf hE.symm).mono ?_
   rintro e w' (⟨p, E, hr, hE0, hp, rfl, hb⟩ | ⟨K, kb, hr, rfl, hk, hkb, hl, hM, hb⟩)
   ·refine .inl ⟨p, E, ?_, hE0, ⟨by omega, .inr (by omega)⟩, rfl, hb⟩
    rw [if_neg (by simp), if_neg (by simp [hE]), hr]
   ·refine .inr ⟨K, kb, ?_, hT, rfl, hr, rfl, hk, hkb, hl, hM, hb⟩
    rw [if_neg (by simp), if_neg (by simp [hE]), hr]
  ·refine (linq_flow vm ms vc xs w hm hx hmf rfl rfl hE).mono ?_
   rintro e w' ⟨rfl, hb⟩
   exact .inl ⟨(checkL xs).1, errL xs, by rw [if_neg (by simp), if_pos hE], hE, check_place xs, rfl, hb⟩
set_option maxHeartbeats 800000 in
theorem ljudge_any (vm : Value) (ms : List Int) (vc : Value) (xs : List In) (w : World) (hm : Sees .i64 w vm ms) (hx : SeesI w vc xs) :
  Calls Tryz.prog 11 #[.agg #[vm, vc]] w fun e w' => ∃ P E : Int, judgeR ms xs = (P, E) /\ (E = 0 ↔ ∃ K, inqR ms xs = .ok K) /\ (0 <= P /\ (P = 0 ∨ P < xs.length)) /\ e = .returned (.tuple #[.int .i64 P, .int .i64 E]) /\ Below w.heap.size w w' := by
 have HM := keepJ hm
 have HX := keepJ hx
 obtain ⟨ma, mcap, rfl⟩ : ∃ a c, vm = .slice a ms.length c := by obtain ⟨a, c, h, _⟩ := hm; exact ⟨a, c, h⟩
 obtain ⟨ca, ccap, rfl⟩ : ∃ a c, vc = .slice a xs.length c := by obtain ⟨a, c, h, _⟩ := hx; exact ⟨a, c, h⟩
 clear hm hx
 go_enter Tryz.func11, Tryz.ntmps11
 go_wp2_with (go_at_call 29; go_must (refine (linquire_any _ ms _ xs _ (HM.out.below ((Below.refl _ _).alloc (Nat.le_refl _) _) (Nat.le_refl _)) (HX.out.below ((Below.refl _ _).alloc (Nat.le_refl _) _))).mono ?_); rintro e w1 (⟨P, E, hi, hE0, hP, rfl, hb⟩ | ⟨K, kb, hi, hT, hmf, hr, rfl, hk, hkb, hl, hM, hb⟩) <;> (have HB := keepJ (box_below hb); have HI := keepJ hi; clear hb hi))
 ·go_ret2
  exact ⟨P, E, by unfold judgeR; rw [HI.out], ⟨fun h => absurd h hE0, fun ⟨K, h⟩ => by rw [HI.out] at h; cases h⟩, hP, rfl, HB.out⟩
 ·go_ret2
  exact ⟨0, 0, by unfold judgeR; rw [HI.out], ⟨fun _ => ⟨K, HI.out⟩, fun _ => rfl⟩, ⟨by decide, .inl rfl⟩, rfl, HB.out⟩
def nilV : Value := .slice none 0 0
theorem own_block {w : World} {base : Nat} {e : TypeId} {z : Nat} {v : Value} {n : Nat} {xs : List Value} (h : w.ownsRow base e z v n xs) (hn : 0 < n) : ∃ g cap, v = .slice (some ⟨g, 0, none⟩) n cap /\ base <= g /\ g < w.heap.size /\ n <= cap := by
 rcases h with ⟨h1, ⟨rfl, rfl⟩ | ⟨g, cap, cur, rfl, hb, hh, h3, h4, _⟩⟩
 ·omega
 ·exact ⟨g, cap, rfl, hb, (Array.getElem?_eq_some_iff.1 hh).1, h3⟩
theorem getD_some {vs : List Value} {k : Nat} (hk : k < vs.length) : vs[k]? = some (vs.getD k nilV) := by simp [List.getD, List.getElem?_eq_getElem hk]
structure Rs where
 E : Int
 f : Bool
 v : Int
 o : Bool
 k : Int
 u : Int
def Rs.nil : Rs := ⟨0, false, 0, false, 0, 0⟩
def traceE (ms : List Int) (xs : List In) (ev : Int × Int) : Nat -> Mc -> List Rs -> List Ac
 | 0, _, _ => []
 | n + 1, M, rs => (stepE ms xs ev M).1 ::
  (if (stepE ms xs ev M).1.k = 4 then [] else if (stepE ms xs ev M).1.k = 2 then
   (match rs with | [] => [] | r :: rest => traceE ms xs ev n (answerE xs (stepE ms xs ev M).2 r.E r.f r.v) rest)
  else traceE ms xs ev n (stepE ms xs ev M).2 rs)
theorem step_kinds {ms : List Int} {xs : List In} {ev : Int × Int} {M : Mc} (h0 : M.mode = 0) :
  ((stepE ms xs ev M).1.k = 4 /\ (stepE ms xs ev M).2.mode = 2) ∨ ((stepE ms xs ev M).1.k = 2 /\ (stepE ms xs ev M).2.mode = 1) ∨ (((stepE ms xs ev M).1.k = 1 ∨ (stepE ms xs ev M).1.k = 3) /\ (stepE ms xs ev M).2.mode = 0) := by
 unfold stepE
 rw [if_neg (by omega), if_neg (by omega)]
 split
 ·unfold callE
  split
  ·exact .inr (.inl ⟨rfl, rfl⟩)
  ·split
   ·exact .inr (.inr ⟨.inl rfl, h0⟩)
   ·exact .inr (.inr ⟨.inr rfl, h0⟩)
 ·split
  ·exact .inl ⟨rfl, rfl⟩
  ·split
   ·exact .inr (.inr ⟨.inl rfl, h0⟩)
   ·exact .inr (.inr ⟨.inl rfl, h0⟩)
theorem trace_end {ms : List Int} {xs : List In} {ev : Int × Int} {M : Mc} {n : Nat} {rs : List Rs} (h : (stepE ms xs ev M).1.k = 4) : traceE ms xs ev (n + 1) M rs = [(stepE ms xs ev M).1] := by
 cases rs <;> (rw [traceE]; rw [if_pos h])
theorem trace_none {ms : List Int} {xs : List In} {ev : Int × Int} {M : Mc} {n : Nat} (h : (stepE ms xs ev M).1.k = 2) : traceE ms xs ev (n + 1) M [] = [(stepE ms xs ev M).1] := by
 rw [traceE, if_neg (by omega), if_pos h]
theorem trace_ask {ms : List Int} {xs : List In} {ev : Int × Int} {M : Mc} {n : Nat} {r : Rs} {rs : List Rs} (h : (stepE ms xs ev M).1.k = 2) : traceE ms xs ev (n + 1) M (r :: rs) = (stepE ms xs ev M).1 :: traceE ms xs ev n (answerE xs (stepE ms xs ev M).2 r.E r.f r.v) rs := by
 rw [traceE, if_neg (by omega), if_pos h]
theorem trace_on {ms : List Int} {xs : List In} {ev : Int × Int} {M : Mc} {n : Nat} {rs : List Rs} (h : (stepE ms xs ev M).1.k ≠ 4 /\ (stepE ms xs ev M).1.k ≠ 2) : traceE ms xs ev (n + 1) M rs = (stepE ms xs ev M).1 :: traceE ms xs ev n (stepE ms xs ev M).2 rs := by
 cases rs <;> (rw [traceE]; rw [if_neg h.1, if_neg h.2])
end Go.Proofs.YtiheafdphgllkaaGreatDoor
