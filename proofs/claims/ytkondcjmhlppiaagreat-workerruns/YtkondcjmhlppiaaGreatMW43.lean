/-
  JInquire
  JRun
  JPull
  E11Safe
-/
import Derived.Test.YtkondcjmhlppiaaGreatMW0
import Derived.Test.YtkondcjmhlppiaaGreatMW40
import Derived.Test.YtkondcjmhlppiaaGreatMW31
import Derived.Test.YtkondcjmhlppiaaGreatMW26
import Derived.Test.YtkondcjmhlppiaaGreatMW27
import Derived.Laws.MakeOwn
namespace Go.Proofs.YtkondcjmhlppiaaGreat
open Go.RowKit
set_option linter.unusedVariables false
set_option linter.unusedSimpArgs false
set_option maxRecDepth 100000
def blurK (xs : List In) (p : Nat) (K : Kn) : Kn := K.set p ((K.getD p kn0).1, blurAll xs p (loopsL xs) (K.getD p kn0).2)
def askE (xs : List In) (nm p : Nat) (K : Kn) : Int := asksJ nm (nth xs p) (K.getD p kn0).2 (K.getD ((p : Int) + (nth xs p).far).toNat kn0).2
def stepK (xs : List In) (nm p : Nat) (K : Kn) : Except Int Kn :=
 if (K.getD p kn0).1 = false then .ok K
 else if askE xs nm p (blurK xs p K) ≠ 0 then .error (askE xs nm p (blurK xs p K))
 else .ok (leaveK (nth xs p) p (blurK xs p K))
def runK (xs : List In) (nm : Nat) : Nat -> Except (Nat × Int) Kn
 | 0 => .ok (arrK (List.replicate xs.length kn0) 0 true stZ)
 | p + 1 => match runK xs nm p with
  | .error e => .error e
  | .ok K => match stepK xs nm p K with
   | .error E => .error (p, E)
   | .ok K' => .ok K'
theorem run_err {xs : List In} {nm p : Nat} {e : Nat × Int} (h : runK xs nm p = .error e) : ∀ n, p <= n -> runK xs nm n = .error e := by
  intro n hn
  induction n with
  | zero => obtain rfl : p = 0 := by omega
            exact h
  | succ n ih =>
    by_cases hp : p = n + 1
    · subst hp; exact h
    · rw [runK, ih (by omega)]
theorem leaveK_len (i : In) (p : Nat) (K : Kn) : (leaveK i p K).length = K.length := by
 unfold leaveK
 split
 ·rfl
 split
 ·exact arrK_len _ _ _ _
 split
 ·rw [arrK_len, arrK_len]
 ·exact arrK_len _ _ _ _
theorem made_blurK {nm : Nat} {xs : List In} {p : Nat} {K : Kn} (h : MadeK nm K) : MadeK nm (blurK xs p K) := h.set p (made_blurAll _ (h.at p))
theorem made_leaveK {nm : Nat} {i : In} {p : Nat} {K : Kn} {head : St} (hr : i.right = true) (hM : MadeK nm K) (ha : asksJ nm i (K.getD p kn0).2 head = 0) : MadeK nm (leaveK i p K) := by
 unfold leaveK
 split
 ·exact hM
 split
 ·exact made_arr hM _ _ (hM.at p)
 split
 ·rename_i ho
  exact made_arr (made_arr hM _ _ (made_ref hr (hM.at p) ha ho)) _ _ (made_ref hr (hM.at p) ha ho)
 ·rename_i ho
  exact made_arr hM _ _ (made_leaves hr (hM.at p) ha (wr_leaves hr _ ho false))
theorem made_rep (nm n : Nat) : MadeK nm (List.replicate n kn0) := fun p hp => by rw [List.eq_of_mem_replicate hp]; exact made_zero nm
theorem flat_rep_at (n j : Nat) (hj : j < n * 33) : (flatK (List.replicate n kn0))[j]? = zeroC[j % 33]? := by
 have h8 : Eight (List.replicate n kn0) := (made_rep 0 n).eight
 have := flatK_at h8 (k := j / 33) (j := j % 33) (by simp; omega) (by omega)
 rw [show j / 33 * 33 + j % 33 = j by omega] at this
 rw [this, show (List.replicate n kn0).getD (j / 33) kn0 = kn0 by simp [List.getD, List.getElem?_replicate]; split <;> rfl]
 rfl
theorem made_cells (n : Nat) : madeCells zeroC.toArray (n * 33) = (flatK (List.replicate n kn0)).toArray := by
 have h8 : Eight (List.replicate n kn0) := (made_rep 0 n).eight
 apply Array.ext_getElem?
 intro j
 by_cases hj : j < n * 33
 ·rw [show (flatK (List.replicate n kn0)).toArray[j]? = (flatK (List.replicate n kn0))[j]? from List.getElem?_toArray, flat_rep_at n j hj]
  have hz : zeroC.toArray.size = 33 := rfl
  simp only [madeCells, Array.getElem?_map]
  rw [Array.getElem?_range]
  simp only [hj, if_true, Option.map_some, hz]
  have hl : j % 33 < zeroC.length := by rw [zeroC_len]; omega
  rw [List.getElem?_eq_getElem hl]
  simp [hl]
 ·rw [Array.getElem?_eq_none (by rw [size_madeCells]; omega), show (flatK (List.replicate n kn0)).toArray[j]? = (flatK (List.replicate n kn0))[j]? from List.getElem?_toArray, List.getElem?_eq_none (by rw [flatK_len h8, List.length_replicate]; omega)]
theorem run_makeK (n : Nat) (hn : n <= 64) (w : World) : (Instr.makeSlice 84 (.int .i64 n) (.int .i64 n)).run Tryz.prog w = .ok (.slice (some ⟨w.heap.size, 0, none⟩) n n) (w.alloc (.cells (flatK (List.replicate n kn0)).toArray 115)) := by
 have hi : ∃ i, Tryz.prog.info? 115 = some i /\ i.size = 33 /\ i.zero = some (.agg zeroC.toArray) /\ i.bytes <= 1000000 := ⟨_, rfl, rfl, rfl, by decide⟩
 obtain ⟨i, h1, h2, h3, h4⟩ := hi
 have := run_make (P := Tryz.prog) w 84 115 i _ Tryz.underlying84 h1 h3 .i64 .i64 n n (by omega) (Int.le_refl _) (by have : (i.bytes : Int) * n <= 1000000 * 64 := Int.mul_le_mul (by omega) (by omega) (by omega) (by omega); omega) (by omega)
 rw [h2] at this
 simp only [Int.toNat_natCast, Value.cells] at this
 rw [made_cells] at this
 exact this
def Begun (w3 wc : World) (nm : Nat) (vl : Value) (cb co ccap : Nat) (xs : List In) (ls : List Lp) (v : Value) : Prop := ∃ qb kb, v = .pointer (some ⟨qb, 0, none⟩) /\ Inq w3 wc qb kb nm vl cb co ccap xs ls (List.replicate xs.length kn0)
theorem keepM2 {w w' : World} {x : Nat} {u v : Value} (h : w.cell? ⟨x, 0, none⟩ = some u /\ w.cell? ⟨x, 1, none⟩ = some v) (hb : Below w.heap.size w w') (hx : x < w.heap.size) : w'.cell? ⟨x, 0, none⟩ = some u /\ w'.cell? ⟨x, 1, none⟩ = some v := by
 rw [hb.cell (p := ⟨x, 0, none⟩) hx, hb.cell (p := ⟨x, 1, none⟩) hx]; exact h
set_option maxHeartbeats 6400000 in
theorem linq_run (vm : Value) (ms : List Int) (cb co ccap : Nat) (xs : List In) (w : World) (hm : Sees .i64 w vm ms) (hx : SeesI w (.slice (some ⟨cb, co, none⟩) xs.length ccap) xs) (hmf : Hid (mapsJ ms = true)) (hE : Hid (0 = errL xs)) :
  Calls Tryz.prog 20 #[.agg #[vm, .slice (some ⟨cb, co, none⟩) xs.length ccap]] w fun e w' =>
   (∃ (p : Nat) (E : Int), runK xs ms.length xs.length = .error (p, E) /\ E ≠ 0 /\ p < xs.length /\ e = .returned (.tuple #[.slice none 0 0, .int .i64 p, .int .i64 E]) /\ Below w.heap.size w w') ∨
   (∃ (K : Kn) (kb : Nat), runK xs ms.length xs.length = .ok K /\ e = .returned (.tuple #[.slice (some ⟨kb, 0, none⟩) xs.length xs.length, .int .i64 0, .int .i64 0]) /\ Hp w' kb 115 (flatK K) /\ w.heap.size <= kb /\ K.length = xs.length /\ MadeK ms.length K /\ Below w.heap.size w w') := by
 have hT : Taken xs := check_ok.1 hE.out.symm
 have HT := keepJ hT
 have HX := keepJ hx
 have HMS := keepJ hm
 obtain ⟨ma, mcap, rfl⟩ : ∃ a c, vm = .slice a ms.length c := by obtain ⟨a, c, h, _⟩ := hm; exact ⟨a, c, h⟩
 obtain ⟨nm, HNM⟩ : ∃ nm, Hid (ms.length = nm) := ⟨_, rfl⟩
 rw [HNM.out] at HMS ⊢
 obtain ⟨P, HP0⟩ : ∃ P, Hid (P = (checkL xs).1) := ⟨_, rfl⟩
 have h64 := hT.top
 have hx64 : (xs.length : Int) <= 64 := by omega
 have hpos : 0 < xs.length := hT.pos
 obtain ⟨W, HW, HBW, hWz, hWz2, m0, m1⟩ : ∃ W, Hid (W = w.alloc (Obj.cells #[.slice ma nm mcap, .slice (some ⟨cb, co, none⟩) xs.length ccap] 32)) /\ Hid (Below w.heap.size w W) /\ w.heap.size < W.heap.size /\ W.heap.size <= w.heap.size + 1 /\ W.cell? ⟨w.heap.size, 0, none⟩ = some (.slice ma nm mcap) /\ W.cell? ⟨w.heap.size, 1, none⟩ = some (.slice (some ⟨cb, co, none⟩) xs.length ccap) :=
  ⟨_, rfl, keepJ (by go_grown), by simp, by simp, by go_cell, by go_cell⟩
 have HXW := keepJ (HX.out.below HBW.out)
 have HMW := keepJ (HMS.out.below HBW.out (Nat.le_refl _))
 clear hx hm hT
 go_enter Tryz.func20, Tryz.ntmps20
 go_wp2_with (first
  | (go_at_call 27; rw [<- HW.out]; go_must (refine (lmapsFit_any _ ms _ HMW.out hmf).mono ?_); rintro e w' ⟨rfl, rfl⟩)
  | (go_at_call 28; go_must (refine (check_as HXW.out HP0 hE).mono ?_); rintro e w2 ⟨rfl, hb2⟩; go_must (have hS2 := keepM2 ⟨m0, m1⟩ hb2 hWz; have hz2 := hb2.size; have HX2 := keepJ (HXW.out.below hb2); clear m0 m1; obtain ⟨m0, m1⟩ := hS2))
  | (go_at_call 29; go_must (refine (lloops_any _ xs _ HX2.out hE).mono ?_); rintro e w3 ⟨u3, rfl, hown3, hb3⟩; go_must (have hS3 := keepM2 ⟨m0, m1⟩ hb3 (by omega); have hz3 := hb3.size; have HX3 := keepJ (HX2.out.below hb3); have HL3 := keepJ (own_seesL hown3); have HB3 := keepJ (HBW.out.trans ((hb2.trans (hb3.mono hz2)).mono HBW.out.size)); obtain ⟨la, lcap, rfl⟩ := own_shapeT hown3; clear m0 m1 hown3 hb2 hb3; obtain ⟨m0, m1⟩ := hS3)))
 -- THE REGION
 obtain ⟨ls, HLS, HLL⟩ : ∃ ls, Hid (loopsA xs = ls) /\ Hid (ls = loopsL xs) := ⟨_, rfl, by show _ = _; unfold loopsA; rw [if_pos hE.out.symm]⟩
 rw [HLS.out] at HL3 ⊢
 clear HLS
 obtain ⟨MC, HMC⟩ : ∃ MC, Hid (MC = flatK (List.replicate xs.length kn0)) := ⟨_, rfl⟩
 have hmk : ∀ wx : World, (Instr.makeSlice 84 (.int .i64 xs.length) (.int .i64 xs.length)).run Tryz.prog wx = .ok (.slice (some ⟨wx.heap.size, 0, none⟩) xs.length xs.length) (wx.alloc (.cells MC.toArray 115)) := fun wx => by rw [HMC.out]; exact run_makeK xs.length h64 wx
 have HP : Hid (∀ w', Below w3.heap.size w3 w' -> w'.cell? ⟨w.heap.size, 0, none⟩ = some (.slice ma nm mcap) /\ w'.cell? ⟨w.heap.size, 1, none⟩ = some (.slice (some ⟨cb, co, none⟩) xs.length ccap)) := fun w' hb' => keepM2 ⟨m0, m1⟩ hb' (by omega)
 go_cut [9] from 12 (fun v9 wc => Begun w3 wc nm (.slice la ls.length lcap) cb co ccap xs ls v9)
 case first =>
  clear m0 m1
  refine wp_region_held_drew (S := fun w' => w'.cell? ⟨w.heap.size, 0, none⟩ = some (.slice ma nm mcap) /\ w'.cell? ⟨w.heap.size, 1, none⟩ = some (.slice (some ⟨cb, co, none⟩) xs.length ccap)) (by kernel_rfl) (HP.out _ (Below.refl _ _).drew) (fun hHeld => ?_)
  refine tkGo [0, 1, 2, 3, 4, 5, 6, 7, 8] ?_
  repeat (refine tkO (v := ?_) rfl ?_ ?_; rotate_left; (intro wy hSw; (try dsimp only at hSw); go_simp; (first | done | with_reducible rfl)); try simp only [Act.put, p1q, p2q, p3q, p4q, p5q, p6q])
  refine tkEnd ?_
  refine runT 9 11 (by kernel_rfl) rfl rfl (by rfl) (by rfl) (fun KK hK => ?_) (fun KK hK => ?_)
  ·go_simp
   refine hK.out _ _ (HP.out _ ((Below.refl _ _).alloc (Nat.le_refl _) _).drew) (fun hHeld => ?_)
   clear hK KK
   try simp only [Act.put, p1q, p2q, p3q, p4q, p5q, p6q]
   refine tkGo [10] ?_
   repeat (refine tkO (v := ?_) rfl ?_ ?_; rotate_left; (intro wy hSw; (try dsimp only at hSw); go_simp; (first | done | with_reducible rfl)); try simp only [Act.put, p1q, p2q, p3q, p4q, p5q, p6q])
   refine tkEnd ?_
   refine runO 11 (by kernel_rfl) rfl (by rfl) (fun KK hK => ?_)
   go_simp
   obtain ⟨Y, HY, HqY, HkY, hbY, hzY⟩ : ∃ Y, Hid (Y = (w3.alloc (Obj.cells MC.toArray 115)).alloc (Obj.cells #[.int .i64 0, .slice none 0 0, .slice none 0 0, .slice none 0 0] 106)) /\ Hid (Hp Y (w3.heap.size + 1) 106 [.int .i64 0, .slice none 0 0, .slice none 0 0, .slice none 0 0]) /\ Hid (Hp Y w3.heap.size 115 MC) /\ Below w3.heap.size w3 Y /\ w3.heap.size + 2 <= Y.heap.size :=
    ⟨_, rfl, keepJ (by have := Hp.new (w3.alloc (Obj.cells MC.toArray 115)) [.int .i64 0, .slice none 0 0, .slice none 0 0, .slice none 0 0] 106; simpa using this), (Hp.new w3 MC _).alloc _, by go_grown, by simp⟩
   rw [<- HY.out]
   clear HY
   refine hK.out _ _ (HP.out _ hbY.drew) (fun hHeld => ?_)
   clear hK KK
   try simp only [Act.put, p1q, p2q, p3q, p4q, p5q, p6q]
   have n0 : Y.cell? ⟨(w3.heap.size + 1), 0, none⟩ = some (.int .i64 0) := HqY.out.cell rfl
   have n1 : Y.cell? ⟨(w3.heap.size + 1), 1, none⟩ = some (.slice none 0 0) := HqY.out.cell rfl
   have n2 : Y.cell? ⟨(w3.heap.size + 1), 2, none⟩ = some (.slice none 0 0) := HqY.out.cell rfl
   have n3 : Y.cell? ⟨(w3.heap.size + 1), 3, none⟩ = some (.slice none 0 0) := HqY.out.cell rfl
   have f0 := HqY.out.frozen 0
   have f1 := HqY.out.frozen 1
   have f2 := HqY.out.frozen 2
   have f3 := HqY.out.frozen 3
   refine runO 12 (by kernel_rfl) rfl (by rfl) (fun KK hK => ?_)
   go_simp
   clear n0 n1 n2 n3 f0 f1 f2 f3
   obtain ⟨V, HV, HqV, HkV, hbV⟩ : ∃ V, Hid (V = ((((Y.setCell ⟨(w3.heap.size + 1), 0, none⟩ (.int .i64 nm)).setCell ⟨(w3.heap.size + 1), 1, none⟩ (.slice (some ⟨cb, co, none⟩) xs.length ccap)).setCell ⟨(w3.heap.size + 1), 2, none⟩ (.slice la ls.length lcap)).setCell ⟨(w3.heap.size + 1), 3, none⟩ (.slice (some ⟨w3.heap.size, 0, none⟩) xs.length xs.length))) /\ Hid (Hp V (w3.heap.size + 1) 106 (qC nm (.slice (some ⟨cb, co, none⟩) xs.length ccap) (.slice la ls.length lcap) w3.heap.size xs.length)) /\ Hid (Hp V w3.heap.size 115 MC) /\ Below w3.heap.size w3 V := ⟨_, rfl, HqY.out.sets (qC nm (.slice (some ⟨cb, co, none⟩) xs.length ccap) (.slice la ls.length lcap) w3.heap.size xs.length) 0, HkY.out.fars (by omega) (qC nm (.slice (some ⟨cb, co, none⟩) xs.length ccap) (.slice la ls.length lcap) w3.heap.size xs.length) 0, hbY.trans (grown_to_below (grown_sets _ (qC nm (.slice (some ⟨cb, co, none⟩) xs.length ccap) (.slice la ls.length lcap) w3.heap.size xs.length) Y 0) (by omega) hbY.size)⟩
   rw [<- HV.out]
   clear HV
   refine hK.out _ _ (HP.out _ hbV.drew) (fun hHeld => ?_)
   clear hK KK
   try simp only [Act.put, p1q, p2q, p3q, p4q, p5q, p6q]
   refine wpAnyH_done (by kernel_rfl) ?_ _
   go_wp2
   go_meet
   case rel => exact ⟨(w3.heap.size + 1), w3.heap.size, rfl, hbV.drew, HqV.out.drew, by rw [<- HMC.out]; exact HkV.out.drew, by simp, by omega, by omega, by omega, (made_rep 0 _).eight, HX3.out, HL3.out⟩
  ·go_simp
   refine hK.out _ _ (HP.out _ ((Below.refl _ _).alloc (Nat.le_refl _) _).drew) (fun hHeld => ?_)
   clear hK KK
   try simp only [Act.put, p1q, p2q, p3q, p4q, p5q, p6q]
   refine runO 9 (by kernel_rfl) rfl (by rfl) (fun KK hK => ?_)
   go_simp
   obtain ⟨Y, HY, HqY, HkY, hbY, hzY⟩ : ∃ Y, Hid (Y = (w3.alloc (Obj.cells #[.int .i64 0, .slice none 0 0, .slice none 0 0, .slice none 0 0] 106)).alloc (Obj.cells MC.toArray 115)) /\ Hid (Hp Y w3.heap.size 106 [.int .i64 0, .slice none 0 0, .slice none 0 0, .slice none 0 0]) /\ Hid (Hp Y (w3.heap.size + 1) 115 MC) /\ Below w3.heap.size w3 Y /\ w3.heap.size + 2 <= Y.heap.size :=
    ⟨_, rfl, (Hp.new w3 [.int .i64 0, .slice none 0 0, .slice none 0 0, .slice none 0 0] _).alloc _, keepJ (by have := Hp.new (w3.alloc (Obj.cells #[.int .i64 0, .slice none 0 0, .slice none 0 0, .slice none 0 0] 106)) MC 115; simpa using this), by go_grown, by simp⟩
   rw [<- HY.out]
   clear HY
   refine hK.out _ _ (HP.out _ hbY.drew) (fun hHeld => ?_)
   clear hK KK
   try simp only [Act.put, p1q, p2q, p3q, p4q, p5q, p6q]
   refine tkGo [10] ?_
   repeat (refine tkO (v := ?_) rfl ?_ ?_; rotate_left; (intro wy hSw; (try dsimp only at hSw); go_simp; (first | done | with_reducible rfl)); try simp only [Act.put, p1q, p2q, p3q, p4q, p5q, p6q])
   refine tkEnd ?_
   have n0 : Y.cell? ⟨w3.heap.size, 0, none⟩ = some (.int .i64 0) := HqY.out.cell rfl
   have n1 : Y.cell? ⟨w3.heap.size, 1, none⟩ = some (.slice none 0 0) := HqY.out.cell rfl
   have n2 : Y.cell? ⟨w3.heap.size, 2, none⟩ = some (.slice none 0 0) := HqY.out.cell rfl
   have n3 : Y.cell? ⟨w3.heap.size, 3, none⟩ = some (.slice none 0 0) := HqY.out.cell rfl
   have f0 := HqY.out.frozen 0
   have f1 := HqY.out.frozen 1
   have f2 := HqY.out.frozen 2
   have f3 := HqY.out.frozen 3
   refine runO 12 (by kernel_rfl) rfl (by rfl) (fun KK hK => ?_)
   go_simp
   clear n0 n1 n2 n3 f0 f1 f2 f3
   obtain ⟨V, HV, HqV, HkV, hbV⟩ : ∃ V, Hid (V = ((((Y.setCell ⟨w3.heap.size, 0, none⟩ (.int .i64 nm)).setCell ⟨w3.heap.size, 1, none⟩ (.slice (some ⟨cb, co, none⟩) xs.length ccap)).setCell ⟨w3.heap.size, 2, none⟩ (.slice la ls.length lcap)).setCell ⟨w3.heap.size, 3, none⟩ (.slice (some ⟨(w3.heap.size + 1), 0, none⟩) xs.length xs.length))) /\ Hid (Hp V w3.heap.size 106 (qC nm (.slice (some ⟨cb, co, none⟩) xs.length ccap) (.slice la ls.length lcap) (w3.heap.size + 1) xs.length)) /\ Hid (Hp V (w3.heap.size + 1) 115 MC) /\ Below w3.heap.size w3 V := ⟨_, rfl, HqY.out.sets (qC nm (.slice (some ⟨cb, co, none⟩) xs.length ccap) (.slice la ls.length lcap) (w3.heap.size + 1) xs.length) 0, HkY.out.fars (by omega) (qC nm (.slice (some ⟨cb, co, none⟩) xs.length ccap) (.slice la ls.length lcap) (w3.heap.size + 1) xs.length) 0, hbY.trans (grown_to_below (grown_sets _ (qC nm (.slice (some ⟨cb, co, none⟩) xs.length ccap) (.slice la ls.length lcap) (w3.heap.size + 1) xs.length) Y 0) (by omega) hbY.size)⟩
   rw [<- HV.out]
   clear HV
   refine hK.out _ _ (HP.out _ hbV.drew) (fun hHeld => ?_)
   clear hK KK
   try simp only [Act.put, p1q, p2q, p3q, p4q, p5q, p6q]
   refine wpAnyH_done (by kernel_rfl) ?_ _
   go_wp2
   go_meet
   case rel => exact ⟨w3.heap.size, (w3.heap.size + 1), rfl, hbV.drew, HqV.out.drew, by rw [<- HMC.out]; exact HkV.out.drew, by simp, by omega, by omega, by omega, (made_rep 0 _).eight, HX3.out, HL3.out⟩
 case rest =>
  obtain ⟨qb, kb, rfl, hInq⟩ := hcut
  have HQ := keepJ hInq
  have hs0 : Made8 nm stZ := made_zero nm
  have HM0 := keepJ (made_rep nm xs.length)
  have H0 : Hid ((0 : Int) = ((0 : Nat) : Int)) := rfl
  clear hInq hmk HP m0 m1 HMC
  go_wp2_with (first
   | (go_at_call 30; go_must (refine (larrive_inq HQ.out H0 hpos true hs0 HM0.out).mono ?_); rintro e w5 ⟨rfl, hg5, hq5, hm5⟩; go_must (have HQ5 := keepJ hq5; have HM5 := keepJ hm5; have q1 : w5.cell? ⟨qb, 1, none⟩ = some (.slice (some ⟨cb, co, none⟩) xs.length ccap) := hq5.q.cell rfl; clear hg5 hq5 hm5)))
  clear q1
  go_loopw [48] (fun i wr => ∃ k : Nat, k <= xs.length /\ i = .int .i64 k /\ Hid (∃ K, runK xs nm k = .ok K /\ Inq w3 wr qb kb nm (.slice la ls.length lcap) cb co ccap xs ls K /\ MadeK nm K)) (fun i _ => xs.length - (intOf i).toNat)
  case atStart => exact ⟨0, by omega, rfl, _, rfl, HQ5.out, HM5.out⟩
  case round =>
   obtain ⟨k, hk, rfl, HI⟩ := hrel
   obtain ⟨K, hrun, hq, hM⟩ := HI.out
   have HRN := keepJ hrun
   have HQK := keepJ hq
   have HMK := keepJ hM
   have q3 : wr.cell? ⟨qb, 3, none⟩ = some (.slice (some ⟨kb, 0, none⟩) xs.length xs.length) := hq.q.cell rfl
   by_cases hlt : k < xs.length
   ·have hkI : (k : Int) < xs.length := by omega
    obtain ⟨r, s, HR⟩ : ∃ r s, Hid (K.getD k kn0 = (r, s)) := ⟨_, _, rfl⟩
    have k0 : wr.cell? ⟨kb, k * 33, none⟩ = some (.bool r) := (hq.k.state hq.e8 (by rw [hq.len]; exact hlt) HR.out).cell
    clear hrun hq hM HI
    cases r with
    | false =>
     have HN : Hid (runK xs nm (k + 1) = .ok K) := by show _ = _; rw [runK, HRN.out]; simp only [stepK]; rw [HR.out]; rfl
     go_wp2
     go_roundw
     case rel => exact ⟨k + 1, by omega, by go_num, K, HN.out, HQK.out, HMK.out⟩
     case measure => simp [intOf]; omega
    | true =>
     obtain ⟨E, HE⟩ : ∃ E, Hid (E = askE xs nm k (blurK xs k K)) := ⟨_, rfl⟩
     by_cases hE0 : E = 0
     ·subst hE0
      have HN : Hid (runK xs nm (k + 1) = .ok (leaveK (nth xs k) k (blurK xs k K))) := by show _ = _; rw [runK, HRN.out]; simp only [stepK]; rw [HR.out, if_neg (by simp), <- HE.out, if_neg (by simp)]
      go_wp2_with (first
       | (go_at_call 31; go_must (refine (lblur_any HQK.out HT.out HLL.out hlt HMK.out).mono ?_); rintro e w6 ⟨rfl, hq6⟩; go_must (have HQ6 : Hid (Inq w3 w6 qb kb nm (.slice la ls.length lcap) cb co ccap xs ls (blurK xs k K)) := (by have := hq6; rw [HLL.out] at this ⊢; exact this); have HM6 := keepJ (made_blurK (xs := xs) (p := k) HMK.out); clear hq6))
       | (go_at_call 32; go_must (refine (lask_any HQ6.out HT.out hlt HM6.out HE).mono ?_); rintro e w7 ⟨rfl, hb7⟩; go_must (have HQ7 := keepJ (HQ6.out.below hb7); clear hb7))
       | (go_at_call 33; go_must (refine (lleave_any HQ7.out HT.out hlt HM6.out HE.out.symm).mono ?_); rintro e w8 ⟨rfl, hq8⟩; go_must (have HQ8 := keepJ hq8; clear hq8)))
      go_roundw
      case rel => exact ⟨k + 1, by omega, by go_num, _, HN.out, HQ8.out, made_leaveK (HT.out.right hlt) HM6.out HE.out.symm⟩
      case measure => simp [intOf]; omega
     ·have HN : Hid (runK xs nm xs.length = .error (k, E)) := run_err (p := k + 1) (by rw [runK, HRN.out]; simp only [stepK]; rw [HR.out, if_neg (by simp), <- HE.out, if_pos hE0]) _ (by omega)
      go_wp2_with (first
       | (go_at_call 31; go_must (refine (lblur_any HQK.out HT.out HLL.out hlt HMK.out).mono ?_); rintro e w6 ⟨rfl, hq6⟩; go_must (have HQ6 : Hid (Inq w3 w6 qb kb nm (.slice la ls.length lcap) cb co ccap xs ls (blurK xs k K)) := (by have := hq6; rw [HLL.out] at this ⊢; exact this); have HM6 := keepJ (made_blurK (xs := xs) (p := k) HMK.out); clear hq6))
       | (go_at_call 32; go_must (refine (lask_any HQ6.out HT.out hlt HM6.out HE).mono ?_); rintro e w7 ⟨rfl, hb7⟩; go_must (have HQ7 := keepJ (HQ6.out.below hb7); clear hb7)))
      go_ret3
      exact .inl ⟨k, E, HN.out, hE0, hlt, rfl, HB3.out.trans (HQ7.out.b0.mono HB3.out.size)⟩
   ·obtain rfl : k = xs.length := by omega
    clear hrun hq hM HI
    go_wp2
    go_ret3
    exact .inr ⟨K, kb, HRN.out, rfl, HQK.out.k, Nat.le_trans HB3.out.size HQK.out.hk, HQK.out.len, HMK.out, HB3.out.trans (HQK.out.b0.mono HB3.out.size)⟩
theorem goes_jump {i : In} (hr : i.right = true) (ho : 15 <= i.op /\ i.op <= 19) : 1 <= i.far /\ i.leads = true := by
 rcases goes_parts i with h | h | h | h
 ·rw [hr] at h; cases h.1
 ·exact ⟨by omega, h.2.2.2.2.1⟩
 ·omega
 ·omega
theorem no_enter {xs : List In} (hT : Taken xs) {k : Nat} (hk : k < xs.length) (hl : (nth xs k).leads = true) {l : Lp} (hm : l ∈ loopsL xs) {x : Int} (hx : x = k + (nth xs k).far) (h1 : l.h < x) (h2 : x <= l.t) : l.h <= k /\ (k : Int) <= l.t := by
 have h := hT.intr k hk
 unfold intrB at h
 rw [hl, Bool.true_and, List.any_eq_false] at h
 have h3 := h l hm
 rw [enters_iff] at h3
 by_cases hc : l.h <= k /\ (k : Int) <= l.t
 ·exact hc
 ·exact absurd ⟨hc, by omega, by omega⟩ h3
theorem kn_set_ne {K : Kn} {p x : Nat} {y : Bool × St} (h : x ≠ p) : (K.set p y).getD x kn0 = K.getD x kn0 := by
 simp [List.getD, List.getElem?_set, h, Ne.symm h]
theorem arr_ne {K : Kn} {p x : Nat} {r : Bool} {s : St} (h : x ≠ p) : (arrK K p r s).getD x kn0 = K.getD x kn0 := by
 unfold arrK
 split
 ·rfl
 split
 ·exact kn_set_ne h
 ·exact kn_set_ne h
theorem kn_set_out {K : Kn} {p x : Nat} {y : Bool × St} (h : ¬ p < K.length) : (K.set p y).getD x kn0 = K.getD x kn0 := by
 rw [List.set_eq_of_length_le (by omega)]
theorem arr_keeps {K : Kn} {p x : Nat} {r : Bool} {s : St} (h : (K.getD x kn0).1 = true) : ((arrK K p r s).getD x kn0).1 = true := by
 by_cases hx : x = p
 ·subst hx
  unfold arrK
  split
  ·exact h
  rename_i hr
  by_cases hl : x < K.length
  ·split
   ·rename_i h2; rw [h] at h2; cases h2
   ·rw [kn_set hl]; exact h
  ·split
   ·rw [kn_set_out hl]; exact h
   ·rw [kn_set_out hl]; exact h
 ·rw [arr_ne hx]; exact h
theorem arr_from {K : Kn} {p x : Nat} {r : Bool} {s : St} (h : ((arrK K p r s).getD x kn0).1 = true) : (K.getD x kn0).1 = true ∨ x = p := by
 by_cases hx : x = p
 ·exact .inr hx
 ·rw [arr_ne hx] at h; exact .inl h
theorem blur_at {xs : List In} {p x : Nat} {K : Kn} : ((blurK xs p K).getD x kn0).1 = (K.getD x kn0).1 := by
 unfold blurK
 by_cases hx : x = p
 ·subst hx
  by_cases hl : x < K.length
  ·rw [kn_set hl]
  ·rw [kn_set_out hl]
 ·rw [kn_set_ne hx]
theorem blur_ne {xs : List In} {p x : Nat} {K : Kn} (h : x ≠ p) : (blurK xs p K).getD x kn0 = K.getD x kn0 := kn_set_ne h
theorem leave_low {xs : List In} {p x : Nat} {K : Kn} (hr : (nth xs p).right = true) (hx : x <= p) : (leaveK (nth xs p) p K).getD x kn0 = K.getD x kn0 := by
 have hg := goes_parts (nth xs p)
 unfold leaveK
 split
 ·rfl
 rename_i c22
 split
 ·rename_i c15
  refine arr_ne ?_
  have hf := (goes_jump hr (by omega)).1
  omega
 rename_i c15
 split
 ·rename_i c16
  have hf := (goes_jump hr (by omega)).1
  rw [arr_ne (by omega), arr_ne (by omega)]
 ·exact arr_ne (by omega)
theorem leave_keeps {i : In} {p x : Nat} {K : Kn} (h : (K.getD x kn0).1 = true) : ((leaveK i p K).getD x kn0).1 = true := by
 unfold leaveK
 split
 ·exact h
 split
 ·exact arr_keeps h
 split
 ·exact arr_keeps (arr_keeps h)
 ·exact arr_keeps h
theorem leave_from {xs : List In} {p x : Nat} {K : Kn} (hr : (nth xs p).right = true) (h : ((leaveK (nth xs p) p K).getD x kn0).1 = true) : (K.getD x kn0).1 = true ∨ x = p + 1 ∨ ((nth xs p).leads = true /\ (x : Int) = p + (nth xs p).far) := by
 have hg := goes_parts (nth xs p)
 unfold leaveK at h
 split at h
 ·exact .inl h
 split at h
 ·rename_i c15
  rcases arr_from h with h | h
  ·exact .inl h
  ·have hf := goes_jump hr (by omega)
   exact .inr (.inr ⟨hf.2, by omega⟩)
 split at h
 ·rename_i c16
  have hf := goes_jump hr (by omega)
  rcases arr_from h with h | h
  ·rcases arr_from h with h | h
   ·exact .inl h
   ·exact .inr (.inl h)
  ·exact .inr (.inr ⟨hf.2, by omega⟩)
 ·rcases arr_from h with h | h
  ·exact .inl h
  ·exact .inr (.inl h)
theorem run_step {xs : List In} {nm n : Nat} {K : Kn} (h : runK xs nm (n + 1) = .ok K) : ∃ K0, runK xs nm n = .ok K0 /\ stepK xs nm n K0 = .ok K := by
 rw [runK] at h
 cases h0 : runK xs nm n with
 | error e => rw [h0] at h; cases h
 | ok K0 =>
  rw [h0] at h
  simp only at h
  cases h1 : stepK xs nm n K0 with
  | error e => rw [h1] at h; cases h
  | ok K1 => rw [h1] at h; simp only at h; injection h with h; subst h; exact ⟨K0, rfl, h1⟩
theorem step_cases {xs : List In} {nm p : Nat} {K K' : Kn} (h : stepK xs nm p K = .ok K') : ((K.getD p kn0).1 = false /\ K' = K) ∨ ((K.getD p kn0).1 = true /\ askE xs nm p (blurK xs p K) = 0 /\ K' = leaveK (nth xs p) p (blurK xs p K)) := by
 unfold stepK at h
 split at h
 ·rename_i h1; injection h with h; exact .inl ⟨h1, h.symm⟩
 ·rename_i h1
  split at h
  ·cases h
  ·rename_i h2; injection h with h; exact .inr ⟨by simpa using h1, by simpa using h2, h.symm⟩
theorem run_heads {xs : List In} {nm : Nat} (hT : Taken xs) : ∀ {n : Nat} {K : Kn}, n <= xs.length -> runK xs nm n = .ok K -> (K.getD 0 kn0).1 = true /\ ∀ l ∈ loopsL xs, ∀ x : Nat, l.h < x -> (x : Int) <= l.t -> (K.getD x kn0).1 = true -> (K.getD l.h.toNat kn0).1 = true := by
 intro n
 induction n with
 | zero =>
  intro K _ h
  rw [runK] at h
  injection h with h
  subst h
  have hp := hT.pos
  refine ⟨?_, fun l hl x hx ht hk => ?_⟩
  ·unfold arrK
   rw [if_neg (by simp), if_pos (by simp [List.getD, List.getElem?_replicate, hp]; rfl), kn_set (by simp; exact hp)]
  ·rcases arr_from hk with hk | hk
   ·exfalso
    rw [show (List.replicate xs.length kn0).getD x kn0 = kn0 by simp [List.getD, List.getElem?_replicate]; split <;> rfl] at hk
    cases hk
   ·have := (hT.loops l hl).1
    omega
 | succ n ih =>
  intro K hn h
  obtain ⟨K0, h0, h1⟩ := run_step h
  obtain ⟨i0, i1⟩ := ih (by omega) h0
  have hr := hT.right (show n < xs.length by omega)
  rcases step_cases h1 with ⟨_, rfl⟩ | ⟨hn1, _, rfl⟩
  ·exact ⟨i0, i1⟩
  ·refine ⟨leave_keeps (by rw [blur_at]; exact i0), fun l hl x hx ht hk => leave_keeps (by
    rw [blur_at]
    have hlp := hT.loops l hl
    have hin : (K0.getD x kn0).1 = true ∨ x = n + 1 ∨ ((nth xs n).leads = true /\ (x : Int) = n + (nth xs n).far) := by
     rcases leave_from hr hk with h | h
     ·rw [blur_at] at h; exact .inl h
     ·exact .inr h
    rcases hin with h | h | h
    ·exact i1 l hl x hx ht h
    ·by_cases hnh : (n : Int) = l.h
     ·rw [<- hnh]; simpa using hn1
     ·exact i1 l hl n (by omega) (by omega) hn1
    ·have hin := no_enter hT (by omega) h.1 hl h.2 hx ht
     by_cases hnh : (n : Int) = l.h
     ·rw [<- hnh]; simpa using hn1
     ·exact i1 l hl n (by omega) hin.2 hn1)⟩
theorem joinS_len (C : List St) (n : Nat) : (joinS C n).length = n := by simp [joinS]
theorem joinS_at (C : List St) {n r : Nat} (hr : r < n) : (joinS C n).getD r Ty.nil = joinT (C.map fun s => s.getD r Ty.nil) := by
 unfold joinS
 simp [List.getD, List.getElem?_map, List.getElem?_range hr]
theorem st_ext {a b : St} (ha : a.length = 8) (hb : b.length = 8) (h : ∀ r, r < 8 -> a.getD r Ty.nil = b.getD r Ty.nil) : a = b := by
 apply List.ext_getElem (by omega)
 intro r h1 h2
 have := h r (by omega)
 rw [List.getD_eq_getElem?_getD, List.getD_eq_getElem?_getD, List.getElem?_eq_getElem h1, List.getElem?_eq_getElem h2] at this
 exact this
theorem joinS_one {nm : Nat} {s : St} (h : Made8 nm s) : joinS [s] 8 = s :=
 st_ext (joinS_len _ _) h.1 fun r hr => by rw [joinS_at _ hr]; exact joinT_one (h.get hr)
theorem made_joinS {nm : Nat} {C : List St} (hne : C ≠ []) (h : ∀ c ∈ C, Made8 nm c) : Made8 nm (joinS C 8) := by
 refine ⟨joinS_len _ _, fun t ht => ?_⟩
 obtain ⟨r, hr, rfl⟩ := List.mem_map.1 ht
 have hr8 := List.mem_range.1 hr
 refine made_join (by simpa using hne) fun u hu => ?_
 obtain ⟨c, hc, rfl⟩ := List.mem_map.1 hu
 exact (h c hc).get hr8
theorem joinS_snoc {nm : Nat} {C : List St} {s : St} (hne : C ≠ []) (h : ∀ c ∈ C, Made8 nm c) (hs : Made8 nm s) : joinS (C ++ [s]) 8 = joinU (joinS C 8) s 8 :=
 st_ext (joinS_len _ _) (joinU_len _ _ _) fun r hr => by
  rw [joinS_at _ hr, joinU_at _ _ hr, if_pos hr, joinS_at _ hr, List.map_append]
  refine joinT_snoc (nm := nm) (by simpa using hne) (fun u hu => ?_) (hs.get hr)
  obtain ⟨c, hc, rfl⟩ := List.mem_map.1 hu
  exact (h c hc).get hr
theorem join2_comm {nm : Nat} {a b : Ty} (ha : Made nm a) (hb : Made nm b) : join2 a b = join2 b a := by
 rw [join2_made ha hb, join2_made hb ha]
 by_cases h1 : a.k = 1 /\ b.k = 1
 ·rw [if_pos h1, if_pos ⟨h1.2, h1.1⟩, Int.min_comm, Int.max_comm]
 ·rw [if_neg h1, if_neg (show ¬ (b.k = 1 /\ a.k = 1) from fun h => h1 ⟨h.2, h.1⟩)]
  by_cases h2 : a.k = 2 /\ b.k = 2 /\ a.m = b.m
  ·rw [if_pos h2, if_pos ⟨h2.2.1, h2.1, h2.2.2.symm⟩, ty_eq]
   rcases ha with h | h | h <;> rcases hb with h' | h' | h' <;> omega
  ·rw [if_neg h2, if_neg (fun h => h2 ⟨h.2.1, h.1, h.2.2.symm⟩)]
theorem joinS_swap {nm : Nat} {C : List St} {a b : St} (h : ∀ c ∈ C, Made8 nm c) (ha : Made8 nm a) (hb : Made8 nm b) : joinS (C ++ [a] ++ [b]) 8 = joinS (C ++ [b] ++ [a]) 8 := by
 have hm : ∀ {x : St}, Made8 nm x -> ∀ c ∈ C ++ [x], Made8 nm c := fun {x} hx c hc => by
  rcases List.mem_append.1 hc with h1 | h1
  ·exact h c h1
  ·rw [List.mem_singleton.1 h1]; exact hx
 rw [joinS_snoc (by simp) (hm ha) hb, joinS_snoc (by simp) (hm hb) ha]
 refine st_ext (joinU_len _ _ _) (joinU_len _ _ _) fun r hr => ?_
 rw [joinU_at _ _ hr, joinU_at _ _ hr, if_pos hr, if_pos hr]
 by_cases hne : C = []
 ·subst hne
  rw [List.nil_append, List.nil_append, joinS_one ha, joinS_one hb]
  exact join2_comm (ha.get hr) (hb.get hr)
 ·rw [joinS_snoc hne h ha, joinS_snoc hne h hb, joinU_at _ _ hr, joinU_at _ _ hr, if_pos hr, if_pos hr]
  exact join2_swap ((made_joinS hne h).get hr) (ha.get hr) (hb.get hr)

def GoodK (K : Kn) (x : Nat) (C : List St) : Prop := ((K.getD x kn0).1 = true ↔ C ≠ []) /\ (C ≠ [] -> (K.getD x kn0).2 = joinS C 8)
theorem good_arr {nm : Nat} {K : Kn} {x p : Nat} {C : List St} {r : Bool} {s : St} (hp : p < K.length) (hg : GoodK K x C) (hC : ∀ c ∈ C, Made8 nm c) (hs : Made8 nm s) : GoodK (arrK K p r s) x (C ++ if x = p /\ r = true then [s] else []) := by
 by_cases hx : x = p
 ·subst hx
  cases r with
  | false => rw [if_neg (by simp), List.append_nil]; exact hg
  | true =>
   rw [if_pos ⟨rfl, rfl⟩]
   unfold arrK
   rw [if_neg (by simp)]
   by_cases hne : C = []
   ·subst hne
    have h1 : (K.getD x kn0).1 = false := by
     cases h : (K.getD x kn0).1 with
     | false => rfl
     | true => exact absurd rfl (hg.1.1 h)
    rw [if_pos h1]
    refine ⟨by rw [kn_set hp]; simp, fun _ => ?_⟩
    rw [kn_set hp, List.nil_append, joinS_one hs]
   ·have h1 := hg.1.2 hne
    rw [if_neg (by rw [h1]; simp)]
    refine ⟨by rw [kn_set hp, h1]; simp, fun _ => ?_⟩
    rw [kn_set hp, joinS_snoc hne hC hs, hg.2 hne]
 ·rw [if_neg (fun h => hx h.1), List.append_nil]
  unfold GoodK
  rw [arr_ne hx]
  exact hg
theorem good_swap {nm : Nat} {K : Kn} {x : Nat} {C A B : List St} (hC : ∀ c ∈ C, Made8 nm c) (hA : A = [] ∨ ∃ a, A = [a] /\ Made8 nm a) (hB : B = [] ∨ ∃ b, B = [b] /\ Made8 nm b) (h : GoodK K x (C ++ A ++ B)) : GoodK K x (C ++ B ++ A) := by
 rcases hA with rfl | ⟨a, rfl, ha⟩
 ·simpa using h
 rcases hB with rfl | ⟨b, rfl, hb⟩
 ·simpa using h
 refine ⟨?_, fun _ => ?_⟩
 ·have := h.1
  simpa using this
 ·rw [h.2 (by simp), joinS_swap hC ha hb]

theorem blurI_wide {nm : Nat} {xs : List In} {s : St} (h : Made8 nm s) (q : Nat) : blurI s (nth xs q) = wideQ xs s q := by
 unfold blurI wideQ
 split
 ·unfold blurT regT
  generalize (nth xs q).wr.1.toNat = r
  by_cases hr : r < 8
  ·have hm := h.get hr
   by_cases h1 : (s.getD r Ty.nil).k = 1
   ·rw [if_pos h1, if_pos h1]
   ·rw [if_neg h1, if_neg h1]
    by_cases h2 : (s.getD r Ty.nil).k = 2
    ·rw [if_pos h2]
    ·rw [if_neg h2]
     have e : s.getD r Ty.nil = Ty.nil := by
      rcases hm with h3 | h3 | h3
      ·exact ty_eq.2 ⟨h3.1, h3.2.1, h3.2.2.1, h3.2.2.2⟩
      ·omega
      ·omega
     rw [show s.set r Ty.nil = s.set r (s.getD r Ty.nil) by rw [e]]
     have hl : r < s.length := by rw [h.1]; exact hr
     rw [List.getD_eq_getElem?_getD, List.getElem?_eq_getElem hl]
     simp
  ·have hs : ∀ t, s.set r t = s := fun t => List.set_eq_of_length_le (by rw [h.1]; omega)
   rw [hs, hs, hs]
   split
   ·rfl
   ·split <;> rfl
 ·rfl
theorem seg_wide {nm : Nat} {xs : List In} {p : Nat} {s : St} (h : Made8 nm s) : ∀ n, p + n <= xs.length -> (segI xs p n).foldl blurI s = wideU xs s p n
 | 0, _ => rfl
 | n + 1, hn => by
  have e : segI xs p (n + 1) = segI xs p n ++ [nth xs (p + n)] := by
   unfold segI
   have hl : n < (xs.drop p).length := by rw [List.length_drop]; omega
   rw [List.take_add_one, List.getElem?_eq_getElem hl, List.getElem_drop]
   unfold nth
   rw [List.getD_eq_getElem?_getD, List.getElem?_eq_getElem (by omega)]
   rfl
  rw [e, List.foldl_append, seg_wide h n (by omega), wideU]
  exact blurI_wide (made_wideU h p n) _
theorem blur_widen {nm : Nat} {xs : List In} (hT : Taken xs) {p : Nat} {s : St} (h : Made8 nm s) : ∀ n, n <= xs.length -> (loopsU xs n).foldl (blurOne xs p) s = widen xs p s n
 | 0, _ => rfl
 | n + 1, hn => by
  rw [loopsU, List.foldl_append, blur_widen hT h n (by omega), widen]
  unfold lps headB
  by_cases h20 : (nth xs n).op = 20
  ·rw [if_pos h20, List.foldl_cons, List.foldl_nil]
   have hg : (nth xs n).far = -(nth xs n).d /\ 1 <= (nth xs n).d := by
    have hr := hT.right (show n < xs.length by omega)
    rcases goes_parts (nth xs n) with h | h | h | h
    ·rw [hr] at h; cases h.1
    ·omega
    ·exact ⟨h.2.2.1, h.2.2.2.2.2.1⟩
    ·omega
   have hm := made_widen (xs := xs) h p n
   unfold blurOne lpAt
   simp only
   by_cases hh : (n : Int) - (nth xs n).d = p
   ·rw [if_pos (by omega), if_pos (by rw [Bool.and_eq_true]; exact ⟨decide_eq_true h20, decide_eq_true hh⟩)]
    have hp : p < n := by omega
    rw [show ((n : Int) + 1 - (p : Int)).toNat = n + 1 - p by omega]
    exact seg_wide hm _ (by omega)
   ·rw [if_neg (by omega), if_neg (fun hc => hh (of_decide_eq_true (Bool.and_eq_true_iff.1 hc).2))]
  ·rw [if_neg h20, List.foldl_nil, if_neg (fun hc => h20 (of_decide_eq_true (Bool.and_eq_true_iff.1 hc).1))]
theorem blurAll_widen {nm : Nat} {xs : List In} (hT : Taken xs) {p : Nat} {s : St} (h : Made8 nm s) : blurAll xs p (loopsL xs) s = widen xs p s xs.length := blur_widen hT h _ (Nat.le_refl _)

def ledL (i : In) (p x : Nat) (s : St) : List St := if (i.leads && decide ((p : Int) + i.far = x)) = true then (leavesJ i s true).toList else []
def onL (i : In) (p x : Nat) (s : St) : List St := if (i.on && decide (p + 1 = x)) = true then (leavesJ i s false).toList else []
theorem one_leaves {nm : Nat} {i : In} {s head : St} (hr : i.right = true) (hs : Made8 nm s) (ha : asksJ nm i s head = 0) (b c : Bool) : (if c = true then (leavesJ i s b).toList else []) = [] ∨ ∃ a, (if c = true then (leavesJ i s b).toList else []) = [a] /\ Made8 nm a := by
 cases c with
 | false => exact .inl rfl
 | true =>
  rw [if_pos rfl]
  cases h : leavesJ i s b with
  | none => exact .inl rfl
  | some s' => exact .inr ⟨s', rfl, made_leaves hr hs ha h⟩
theorem leave_good {nm : Nat} {xs : List In} {p x : Nat} {K : Kn} {head : St} {C : List St} (hT : Taken xs) (hp : p < xs.length) (hl : K.length = xs.length) (hM : MadeK nm K) (hk : (K.getD p kn0).1 = true) (ha : asksJ nm (nth xs p) (K.getD p kn0).2 head = 0) (hx : p < x) (hg : GoodK K x C) (hC : ∀ c ∈ C, Made8 nm c) :
  GoodK (leaveK (nth xs p) p K) x (C ++ ledL (nth xs p) p x (K.getD p kn0).2 ++ onL (nth xs p) p x (K.getD p kn0).2) := by
 have hr := hT.right hp
 have hpl := place_ok hp (hT.place p hp)
 have hs := hM.at p
 have hgp := goes_parts (nth xs p)
 unfold leaveK
 generalize hi : nth xs p = i at *
 generalize hS : (K.getD p kn0).2 = s at *
 rw [hk]
 by_cases c22 : i.op = 22
 ·rw [if_pos c22]
  have : ledL i p x s = [] /\ onL i p x s = [] := by
   rcases hgp with h | h | h | h
   ·rw [hr] at h; cases h.1
   ·omega
   ·omega
   ·unfold ledL onL
    rw [h.2.2.2.1, h.2.2.2.2]
    simp [c22]
  rw [this.1, this.2]
  simpa using hg
 rw [if_neg c22]
 by_cases c15 : i.op = 15
 ·rw [if_pos c15]
  have hj := goes_jump hr (by omega)
  have hon : i.on = false := by
   rcases hgp with h | h | h | h
   ·rw [hr] at h; cases h.1
   ·rw [h.2.2.2.2.2.1]; simp [c15]
   ·omega
   ·omega
  have e1 : onL i p x s = [] := by unfold onL; rw [hon]; simp
  have e2 : ledL i p x s = if x = ((p : Int) + i.far).toNat /\ true = true then [s] else [] := by
   unfold ledL
   rw [hj.2]
   have e3 : leavesJ i s true = some s := by
    unfold leavesJ
    have h3 : ¬ threeB i.op = true := by unfold threeB; simp; omega
    have h4 : ¬ jumpB i.op = true := by unfold jumpB; simp; omega
    rw [if_neg (by omega), if_neg h3, if_neg (by omega), if_neg (by omega), if_neg (by omega), if_neg h4]
   rw [e3]
   by_cases hc : (p : Int) + i.far = x
   ·rw [if_pos (by simp [hc]), if_pos ⟨by omega, rfl⟩]; rfl
   ·rw [if_neg (by simp [hc]), if_neg (fun h => hc (by omega))]
  rw [e1, e2, List.append_nil]
  exact good_arr (by omega) hg hC hs
 rw [if_neg c15]
 by_cases c16 : 16 <= i.op /\ i.op <= 19
 ·rw [if_pos c16]
  have hj := goes_jump hr (by omega)
  have hon : i.on = true := by
   rcases hgp with h | h | h | h
   ·rw [hr] at h; cases h.1
   ·rw [h.2.2.2.2.2.1]; simp [c15]
   ·omega
   ·omega
  have e1 : onL i p x s = if x = p + 1 /\ (refS i true s false).1 = true then [(refS i true s false).2] else [] := by
   unfold onL
   rw [hon, ref_leaves s c16]
   by_cases hc : p + 1 = x
   ·subst hc
    cases h : leavesJ i s false <;> simp
   ·rw [if_neg (by simp [hc]), if_neg (fun h => hc h.1.symm)]
  have e2 : ledL i p x s = if x = ((p : Int) + i.far).toNat /\ (refS i true s true).1 = true then [(refS i true s true).2] else [] := by
   unfold ledL
   rw [hj.2, ref_leaves s c16]
   by_cases hc : (p : Int) + i.far = x
   ·have hc' : x = ((p : Int) + i.far).toNat := by omega
    rw [if_pos (by simp [hc])]
    cases h : leavesJ i s true with
    | none => simp
    | some s' => rw [if_pos ⟨hc', rfl⟩]; rfl
   ·rw [if_neg (by simp [hc]), if_neg (fun h => hc (by have := h.1; omega))]
  have o1 := one_leaves hr hs ha false (i.on && decide (p + 1 = x))
  have o2 := one_leaves hr hs ha true (i.leads && decide ((p : Int) + i.far = x))
  refine good_swap hC o1 o2 ?_
  change GoodK _ x (C ++ onL i p x s ++ ledL i p x s)
  have hCo : ∀ c ∈ C ++ onL i p x s, Made8 nm c := by
   intro c hc
   rcases List.mem_append.1 hc with h1 | h1
   ·exact hC c h1
   ·rcases o1 with h2 | ⟨a, h2, h3⟩
    ·have h1' : c ∈ ([] : List St) := by rw [<- h2]; exact h1
     cases h1'
    ·have h1' : c ∈ [a] := by rw [<- h2]; exact h1
     rw [List.mem_singleton.1 h1']; exact h3
  rw [e2]
  refine good_arr (nm := nm) (by rw [arrK_len]; omega) ?_ hCo (made_ref hr hs ha c16)
  rw [e1]
  exact good_arr (by have := hpl.2.2.2 hon; omega) hg hC (made_ref hr hs ha c16)
 rw [if_neg c16]
 have hon : i.on = true := by
  rcases hgp with h | h | h | h
  ·rw [hr] at h; cases h.1
  ·omega
  ·exact h.2.2.2.2.1
  ·rw [h.2.2.2.2]; simp [c22]
 have e1 : onL i p x s = if x = p + 1 /\ true = true then [wrS i s] else [] := by
  unfold onL
  rw [hon, wr_leaves hr s c16 false]
  by_cases hc : p + 1 = x
  ·rw [if_pos (by simp [hc]), if_pos ⟨hc.symm, rfl⟩]; rfl
  ·rw [if_neg (by simp [hc]), if_neg (fun h => hc h.1.symm)]
 have e2 : ledL i p x s = [] := by
  unfold ledL
  rcases hgp with h | h | h | h
  ·rw [hr] at h; cases h.1
  ·omega
  ·rw [if_neg (by simp; intro _; omega)]
  ·rw [h.2.2.2.1]; simp
 rw [e1, e2, List.append_nil]
 exact good_arr (by have := hpl.2.2.2 hon; omega) hg hC (made_leaves hr hs ha (wr_leaves hr s c16 false))

theorem comes_succ (xs : List In) (known : List St) (x n : Nat) : comesU xs known x (n + 1) = comesU xs known x n ++ stepC xs known x n := by
 unfold comesU
 rw [List.range_succ, List.flatMap_append, List.append_assoc]
 simp
theorem step_congr {xs : List In} {known known' : List St} {x q : Nat} (h : known.getD q [] = known'.getD q []) : stepC xs known x q = stepC xs known' x q := by
 unfold stepC
 rw [h]
theorem comes_congr {xs : List In} {known known' : List St} {x : Nat} : ∀ n, (∀ q, q < n -> known.getD q [] = known'.getD q []) -> comesU xs known x n = comesU xs known' x n
 | 0, _ => rfl
 | n + 1, h => by rw [comes_succ, comes_succ, comes_congr n (fun q hq => h q (by omega)), step_congr (h n (by omega))]
theorem getD_app_l {l m : List St} {q : Nat} (h : q < l.length) : (l ++ m).getD q [] = l.getD q [] := by
 simp [List.getD, List.getElem?_append_left h]
theorem getD_app_at {l : List St} {s : St} : (l ++ [s]).getD l.length [] = s := by
 simp [List.getD]
structure Pull (xs : List In) (nm n : Nat) (K : Kn) (known : List St) : Prop where
 len : known.length = n
 klen : K.length = xs.length
 made : MadeK nm K
 low : ∀ x, x < n -> known.getD x [] = if (K.getD x kn0).1 = true then (K.getD x kn0).2 else []
 high : ∀ x, n <= x -> x < xs.length -> GoodK K x (comesU xs known x n)
 cm : ∀ x, ∀ c ∈ comesU xs known x n, Made8 nm c
theorem pull_start {xs : List In} (nm : Nat) (hT : Taken xs) : Pull xs nm 0 (arrK (List.replicate xs.length kn0) 0 true stZ) [] := by
 have hr0 : ∀ x, (List.replicate xs.length kn0).getD x kn0 = kn0 := fun x => by simp [List.getD, List.getElem?_replicate]; split <;> rfl
 have hc : ∀ x, comesU xs [] x 0 = [] ++ if x = 0 /\ true = true then [stZ] else [] := fun x => by
  unfold comesU stZ
  by_cases h : x = 0
  ·subst h; rfl
  ·rw [if_neg h, if_neg (fun h' => h h'.1)]; rfl
 refine ⟨rfl, by rw [arrK_len]; simp, made_arr (made_rep nm _) _ _ (made_zero nm), fun x hx => by omega, fun x _ hx => ?_, fun x c h => ?_⟩
 ·rw [hc]
  refine good_arr (nm := nm) (by simpa using hT.pos) ⟨by rw [hr0]; simp [kn0], fun h => absurd rfl h⟩ (fun c h => by cases h) (made_zero nm)
 ·rw [hc] at h
  split at h
  ·have h' : c ∈ [stZ] := by simpa using h
   rw [List.mem_singleton.1 h']; exact made_zero nm
  ·simp at h
theorem asks_head {nm : Nat} {i : In} {s h h' : St} (hh : i.op = 20 -> h = h') : asksJ nm i s h = asksJ nm i s h' := by
 by_cases h20 : i.op = 20
 ·rw [hh h20]
 ·unfold asksJ
  simp only [h20, if_false]
theorem pull_at {xs : List In} {nm n : Nat} {K : Kn} {known : List St} (hT : Taken xs) (hn : n < xs.length) (h : Pull xs nm n K known) : atJ xs known n = if (K.getD n kn0).1 = true then ((blurK xs n K).getD n kn0).2 else [] := by
 have hg := h.high n (Nat.le_refl _) hn
 unfold atJ
 by_cases hne : comesU xs known n n = []
 ·rw [hne, if_pos (show ([] : List St).length = 0 from rfl), if_neg (fun h1 => (hg.1.1 h1) hne)]
 ·rw [if_neg (by simpa using hne), if_pos (hg.1.2 hne)]
  unfold blurK
  rw [kn_set (by rw [h.klen]; exact hn), hg.2 hne]
  exact (blurAll_widen hT (made_joinS hne (h.cm n))).symm
theorem pull_err {xs : List In} {nm n : Nat} {K : Kn} {known : List St} (hT : Taken xs) (hn : n < xs.length) (h : Pull xs nm n K known) (hrun : runK xs nm n = .ok K) (hk : (K.getD n kn0).1 = true) : errJ xs nm known (atJ xs known n) n = askE xs nm n (blurK xs n K) := by
 have e := pull_at hT hn h
 rw [if_pos hk] at e
 unfold errJ askE
 rw [e]
 have hm := made_blurK (xs := xs) (p := n) h.made
 have h8 := (hm.at n).1
 rw [if_neg (by omega)]
 refine asks_head fun h20 => ?_
 have hr := hT.right hn
 have hpl := place_ok hn (hT.place n hn)
 have hg : (nth xs n).far = -(nth xs n).d /\ 1 <= (nth xs n).d := by
  rcases goes_parts (nth xs n) with h | h | h | h
  ·rw [hr] at h; cases h.1
  ·omega
  ·exact ⟨h.2.2.1, h.2.2.2.2.2.1⟩
  ·omega
 unfold headJ
 rw [if_pos h20]
 have hq : ((n : Int) - (nth xs n).d).toNat < n := by omega
 rw [getD_app_l (by rw [h.len]; exact hq), h.low _ hq]
 have hml : lpAt xs n ∈ loopsL xs := loopsU_mem.2 ⟨n, hn, h20, rfl⟩
 have hhd := (run_heads hT (by omega) hrun).2 _ hml n (by show (n : Int) + (nth xs n).far < n; omega) (Int.le_refl _) hk
 have e2 : (lpAt xs n).h.toNat = ((n : Int) - (nth xs n).d).toNat := by show ((n : Int) + (nth xs n).far).toNat = _; omega
 rw [e2] at hhd
 rw [if_pos hhd, show ((n : Int) + (nth xs n).far).toNat = ((n : Int) - (nth xs n).d).toNat by omega, blur_ne (by omega)]
theorem pull_step {xs : List In} {nm n : Nat} {K K' : Kn} {known : List St} (hT : Taken xs) (hn : n < xs.length) (h : Pull xs nm n K known) (hs : stepK xs nm n K = .ok K') : Pull xs nm (n + 1) K' (known ++ [atJ xs known n]) := by
 have hr := hT.right hn
 have ea := pull_at hT hn h
 have hcong : ∀ x, comesU xs (known ++ [atJ xs known n]) x n = comesU xs known x n := fun x => comes_congr n fun q hq => getD_app_l (by rw [h.len]; exact hq)
 have hat : (known ++ [atJ xs known n]).getD n [] = atJ xs known n := by have := @getD_app_at known (atJ xs known n); rwa [h.len] at this
 rcases step_cases hs with ⟨hk, rfl⟩ | ⟨hk, ha, rfl⟩
 ·rw [hk, if_neg (by simp)] at ea
  have hst : ∀ x, stepC xs (known ++ [atJ xs known n]) x n = [] := fun x => by
   unfold stepC
   rw [hat, ea, if_pos (show ([] : St).length = 0 from rfl)]
  refine ⟨by simp [h.len], h.klen, h.made, fun x hx => ?_, fun x h1 h2 => ?_, fun x c hc => ?_⟩
  ·by_cases hxn : x = n
   ·subst hxn; rw [hat, ea, hk, if_neg (by simp)]
   ·rw [getD_app_l (by rw [h.len]; omega)]; exact h.low x (by omega)
  ·rw [comes_succ, hcong, hst, List.append_nil]; exact h.high x (by omega) h2
  ·rw [comes_succ, hcong, hst, List.append_nil] at hc; exact h.cm x c hc
 ·rw [if_pos hk] at ea
  have hmb := made_blurK (xs := xs) (p := n) h.made
  have hlb : (blurK xs n K).length = xs.length := by unfold blurK; rw [List.length_set]; exact h.klen
  have hkb : ((blurK xs n K).getD n kn0).1 = true := by rw [blur_at]; exact hk
  have hst : ∀ x, stepC xs (known ++ [atJ xs known n]) x n = ledL (nth xs n) n x ((blurK xs n K).getD n kn0).2 ++ onL (nth xs n) n x ((blurK xs n K).getD n kn0).2 := fun x => by
   unfold stepC
   rw [hat, ea, if_neg (by have := (hmb.at n).1; omega)]
   rfl
  have hgb : ∀ x, n < x -> x < xs.length -> GoodK (blurK xs n K) x (comesU xs known x n) := fun x h1 h2 => by
   have := h.high x (by omega) h2
   unfold GoodK at this ⊢
   rw [blur_ne (by omega)]
   exact this
  refine ⟨by simp [h.len], by rw [leaveK_len]; exact hlb, made_leaveK hr hmb ha, fun x hx => ?_, fun x h1 h2 => ?_, fun x c hc => ?_⟩
  ·rw [leave_low hr (by omega)]
   by_cases hxn : x = n
   ·subst hxn; rw [hat, ea, if_pos hkb]
   ·rw [getD_app_l (by rw [h.len]; omega), blur_ne hxn]; exact h.low x (by omega)
  ·rw [comes_succ, hcong, hst, <- List.append_assoc]
   exact leave_good hT hn hlb hmb hkb ha (by omega) (hgb x (by omega) h2) (h.cm x)
  ·rw [comes_succ, hcong, hst] at hc
   rcases List.mem_append.1 hc with h1 | h1
   ·exact h.cm x c h1
   ·rcases List.mem_append.1 h1 with h2 | h2
    ·rcases one_leaves hr (hmb.at n) ha true ((nth xs n).leads && decide ((n : Int) + (nth xs n).far = x)) with h3 | ⟨a, h3, h4⟩
     ·have h2' : c ∈ ([] : List St) := by rw [<- h3]; exact h2
      cases h2'
     ·have h2' : c ∈ [a] := by rw [<- h3]; exact h2
      rw [List.mem_singleton.1 h2']; exact h4
    ·rcases one_leaves hr (hmb.at n) ha false ((nth xs n).on && decide (n + 1 = x)) with h3 | ⟨a, h3, h4⟩
     ·have h2' : c ∈ ([] : List St) := by rw [<- h3]; exact h2
      cases h2'
     ·have h2' : c ∈ [a] := by rw [<- h3]; exact h2
      rw [List.mem_singleton.1 h2']; exact h4
theorem pull_run {xs : List In} {nm : Nat} (hT : Taken xs) : ∀ n, n <= xs.length -> (∃ e, runK xs nm n = .error e /\ runU xs nm n = .error ((e.1 : Int), e.2)) ∨ (∃ K known, runK xs nm n = .ok K /\ runU xs nm n = .ok known /\ Pull xs nm n K known)
 | 0, _ => .inr ⟨_, [], rfl, rfl, pull_start nm hT⟩
 | n + 1, hn => by
  rcases pull_run (nm := nm) hT n (by omega) with ⟨e, h1, h2⟩ | ⟨K, known, h1, h2, hP⟩
  ·exact .inl ⟨e, by rw [runK, h1], by rw [runU, h2]⟩
  ·have hn' : n < xs.length := by omega
   rw [runK, runU, h1, h2]
   simp only
   cases hs : stepK xs nm n K with
   | error E =>
    left
    unfold stepK at hs
    split at hs
    ·cases hs
    rename_i hk
    split at hs
    ·rename_i hE
     injection hs with hs
     have := pull_err hT hn' hP h1 (by simpa using hk)
     rw [this, if_neg hE, hs]
     exact ⟨_, rfl, rfl⟩
    ·cases hs
   | ok K' =>
    right
    have hE : errJ xs nm known (atJ xs known n) n = 0 := by
     rcases step_cases hs with ⟨hk, _⟩ | ⟨hk, ha, _⟩
     ·have := pull_at hT hn' hP
      rw [hk, if_neg (by simp)] at this
      unfold errJ
      rw [this, if_pos (show ([] : St).length = 0 from rfl)]
     ·rw [pull_err hT hn' hP h1 hk, ha]
    rw [if_pos hE]
    exact ⟨K', _, rfl, rfl, pull_step hT hn' hP hs⟩
def HoldT (t : Ty) (v : Int) : Prop := (t.k = 1 -> t.lo <= v /\ v <= t.hi) /\ (t.k = 2 -> v = t.m)
def HoldS (s : St) (R : List Int) : Prop := ∀ r, r < 8 -> HoldT (s.getD r Ty.nil) (R.getD r 0)
theorem hold_nil (v : Int) : HoldT Ty.nil v := ⟨fun h => (by cases h), fun h => (by cases h)⟩
theorem hold_full {v : Int} (hv : 0 <= v /\ v <= 18446744073709551615) : HoldT fullT v := ⟨fun _ => hv, fun h => (by cases h)⟩
theorem hold_num {lo hi v : Int} (h : lo <= v /\ v <= hi) : HoldT (num2 lo hi) v := ⟨fun _ => h, fun h => (by cases h)⟩
theorem HoldS.set {s : St} {R : List Int} (h : HoldS s R) (hs : s.length = 8) (hR : R.length = 8) {k : Nat} {t : Ty} {v : Int} (ht : HoldT t v) : HoldS (s.set k t) (R.set k v) := by
 intro r hr
 by_cases e : k = r
 ·subst e
  rw [show (s.set k t).getD k Ty.nil = t by simp [List.getD, List.getElem?_set, hs, hr], show (R.set k v).getD k 0 = v by simp [List.getD, List.getElem?_set, hR, hr]]
  exact ht
 ·rw [show (s.set k t).getD r Ty.nil = s.getD r Ty.nil by simp [List.getD, List.getElem?_set, e], show (R.set k v).getD r 0 = R.getD r 0 by simp [List.getD, List.getElem?_set, e]]
  exact h r hr
theorem HoldS.setT {s : St} {R : List Int} (h : HoldS s R) (hs : s.length = 8) {k : Nat} {t : Ty} (ht : HoldT t (R.getD k 0)) : HoldS (s.set k t) R := by
 intro r hr
 by_cases e : k = r
 ·subst e
  rw [show (s.set k t).getD k Ty.nil = t by simp [List.getD, List.getElem?_set, hs, hr]]
  exact ht
 ·rw [show (s.set k t).getD r Ty.nil = s.getD r Ty.nil by simp [List.getD, List.getElem?_set, e]]
  exact h r hr
theorem within_ends {a A b B : Int} (h : withinB a A b B = true) : b <= a /\ A <= B := by
 simp only [withinB, hasN, Bool.and_eq_true, decide_eq_true_eq] at h
 omega
theorem fits_hold {a b : Ty} {v : Int} (h : fitsJ a b = true) (ha : HoldT a v) : HoldT b v := by
 unfold fitsJ at h
 split at h
 ·rename_i h0
  exact ⟨fun h1 => by omega, fun h2 => by omega⟩
 split at h
 ·cases h
 rename_i h0 hk
 have hk : a.k = b.k := by omega
 split at h
 ·rename_i h1
  have := within_ends h
  have := ha.1 (by omega)
  exact ⟨fun _ => by omega, fun h2 => by omega⟩
 ·rename_i h1
  have e := of_decide_eq_true h
  exact ⟨fun h2 => by omega, fun h2 => by rw [ha.2 (by omega), e]⟩
theorem fitsAll_hold {s h : St} {R : List Int} (hf : fitsAll s h = true) (hs : HoldS s R) : HoldS h R := fun r hr => by
 unfold fitsAll at hf
 exact fits_hold ((List.all_eq_true.1 hf) r (List.mem_range.2 hr)) (hs r hr)
theorem joinT_hold {nm : Nat} {l : List Ty} {t : Ty} {v : Int} (hl : ∀ u ∈ l, Made nm u) (ht : t ∈ l) (h : HoldT t v) : HoldT (joinT l) v := by
 unfold joinT
 split
 ·rename_i ha
  have hx := (List.all_eq_true.1 ha) t ht
  simp only [likeB, Bool.and_eq_true, decide_eq_true_eq, Bool.not_eq_true', Bool.and_eq_false_iff, decide_eq_false_iff_not] at hx
  split
  ·rename_i h1
   have hb : joinB (spansT l) = true := by
    unfold joinB
    rw [Bool.and_eq_true]
    refine ⟨by cases l with | nil => cases ht | cons a b => rfl, List.all_eq_true.2 fun s hs => ?_⟩
    obtain ⟨u, hu, rfl⟩ := List.mem_map.1 hs
    have hk := (List.all_eq_true.1 ha) u hu
    simp only [likeB, Bool.and_eq_true, decide_eq_true_eq] at hk
    have hk1 := hk.1
    refine decide_eq_true ?_
    rcases hl u hu with h2 | h2 | h2 <;> (simp only; omega)
   have := join_holds hb (List.mem_map.2 ⟨t, ht, rfl⟩)
   simp only at this
   have h2 := h.1 (by omega)
   exact hold_num ⟨by omega, by omega⟩
  ·rename_i h1
   refine ⟨fun h2 => absurd h2 h1, fun h2 => ?_⟩
   have h3 := h.2 (by omega)
   have : t.m = (l.getD 0 Ty.nil).m := by
    rcases hx.2 with h4 | h4
    ·omega
    ·omega
   omega
 ·exact hold_nil v
theorem joinS_hold {nm : Nat} {C : List St} {c : St} {R : List Int} (hC : ∀ c ∈ C, Made8 nm c) (hc : c ∈ C) (h : HoldS c R) : HoldS (joinS C 8) R := fun r hr => by
 rw [joinS_at C hr]
 refine joinT_hold (nm := nm) (fun u hu => ?_) (List.mem_map.2 ⟨c, hc, rfl⟩) (h r hr)
 obtain ⟨d, hd, rfl⟩ := List.mem_map.1 hu
 exact (hC d hd).get hr
theorem wideQ_hold {xs : List In} {s : St} {R : List Int} {q : Nat} (hR : WR R) (hs : s.length = 8) (h : HoldS s R) : HoldS (wideQ xs s q) R := by
 unfold wideQ
 split
 ·split
  ·by_cases hr : (nth xs q).wr.1.toNat < 8
   ·exact h.setT hs (hold_full (hR.2 _ hr))
   ·rw [List.set_eq_of_length_le (by omega)]; exact h
  ·split
   ·exact h.setT hs (hold_nil _)
   ·exact h
 ·exact h
theorem wideU_hold {nm : Nat} {xs : List In} {s : St} {R : List Int} {p : Nat} (hR : WR R) (hs : Made8 nm s) (h : HoldS s R) : ∀ n, HoldS (wideU xs s p n) R
 | 0 => h
 | n + 1 => wideQ_hold hR (made_wideU hs p n).1 (wideU_hold hR hs h n)
theorem widen_hold {nm : Nat} {xs : List In} {s : St} {R : List Int} {p : Nat} (hR : WR R) (hs : Made8 nm s) (h : HoldS s R) : ∀ l, HoldS (widen xs p s l) R
 | 0 => h
 | l + 1 => by
  unfold widen
  split
  ·exact wideU_hold hR (made_widen hs p l) (widen_hold hR hs h l) _
  ·exact widen_hold hR hs h l
theorem src_hold {i : In} {s : St} {R : List Int} (h : HoldS s R) (hb : i.b = 8 ∨ (0 <= i.b /\ i.b <= 7)) : HoldT (srcT i s) (srcV i R) := by
 unfold srcT srcV
 split
 ·exact hold_num ⟨Int.le_refl _, Int.le_refl _⟩
 ·exact h _ (by omega)
theorem do_hold {nm : Nat} {op : Int} {a b : Ty} {x y : Int} (hop : 1 <= op /\ op <= 10) (ha : Made nm a) (hb : Made nm b) (ka : a.k = 1) (kb : b.k = 1) (hx : HoldT a x) (hy : HoldT b y) : HoldT (doT op a b) (doL op x y) := by
 have h1 : 0 <= a.lo /\ a.lo <= a.hi /\ a.hi <= 18446744073709551615 := by rcases ha with h | h | h <;> omega
 have h2 : 0 <= b.lo /\ b.lo <= b.hi /\ b.hi <= 18446744073709551615 := by rcases hb with h | h | h <;> omega
 unfold doT doR
 rw [if_pos ⟨hop, h1.2.1, h2.2.1⟩]
 exact hold_num (span_sound hop h1.1 h1.2.2 h2.1 h2.2.2 (hx.1 ka) (hy.1 kb))
theorem run_take {xs : List In} {nm : Nat} : ∀ {n : Nat} {known : List St}, runU xs nm n = .ok known -> ∀ x, x <= n -> runU xs nm x = .ok (known.take x) /\ known.length = n := by
 intro n
 induction n with
 | zero =>
  intro known h x hx
  obtain rfl : x = 0 := by omega
  rw [runU] at h
  injection h with h
  subst h
  exact ⟨rfl, rfl⟩
 | succ n ih =>
  intro known h x hx
  rw [runU] at h
  cases h0 : runU xs nm n with
  | error e => rw [h0] at h; cases h
  | ok k0 =>
   rw [h0] at h
   simp only at h
   split at h
   ·rename_i he
    injection h with h
    subst h
    obtain ⟨_, hl⟩ := ih h0 0 (by omega)
    refine ⟨?_, by simp [hl]⟩
    by_cases hxn : x = n + 1
    ·subst hxn
     rw [runU, h0]
     simp only
     rw [if_pos he, List.take_of_length_le (by simp [hl])]
    ·have := (ih h0 x (by omega)).1
     rw [this, List.take_append_of_le_length (by omega)]
   ·cases h
theorem run_at {xs : List In} {nm n : Nat} {known : List St} (h : runU xs nm n = .ok known) {x : Nat} (hx : x < n) : known.getD x [] = atJ xs (known.take x) x /\ errJ xs nm (known.take x) (known.getD x []) x = 0 := by
 have h1 := (run_take h (x + 1) (by omega)).1
 have h0 := (run_take h x (by omega)).1
 have hl := (run_take h x (by omega)).2
 rw [runU, h0] at h1
 simp only at h1
 split at h1
 ·rename_i he
  injection h1 with h1
  have e : known.getD x [] = atJ xs (known.take x) x := by
   have h2 : (known.take x ++ [atJ xs (known.take x) x]).getD x [] = (known.take (x + 1)).getD x [] := by rw [h1]
   rw [show (known.take (x + 1)).getD x [] = known.getD x [] by simp [List.getD, List.getElem?_take]] at h2
   rw [<- h2]
   have h3 : (known.take x).length = x := by rw [List.length_take]; omega
   have := @getD_app_at (known.take x) (atJ xs (known.take x) x)
   rw [h3] at this
   exact this
  exact ⟨e, by rw [e]; exact he⟩
 ·cases h1
theorem take_at9 {known : List St} {x q : Nat} (hq : q < x) : (known.take x).getD q [] = known.getD q [] := by simp [List.getD, List.getElem?_take, hq]
structure Known (xs : List In) (nm : Nat) (known : List St) : Prop where
 T : Taken xs
 run : runU xs nm xs.length = .ok known
theorem Known.pull {xs : List In} {nm : Nat} {known : List St} (h : Known xs nm known) {x : Nat} (hx : x <= xs.length) : ∃ K, runK xs nm x = .ok K /\ Pull xs nm x K (known.take x) := by
 have h0 := (run_take h.run x hx).1
 rcases pull_run (nm := nm) h.T x hx with ⟨e, h1, h2⟩ | ⟨K, k, h1, h2, hP⟩
 ·rw [h0] at h2; cases h2
 ·rw [h0] at h2; injection h2 with h2; subst h2; exact ⟨K, h1, hP⟩
theorem Known.made {xs : List In} {nm : Nat} {known : List St} (h : Known xs nm known) {p : Nat} (hp : p < xs.length) (hk : known.getD p [] ≠ []) : Made8 nm (known.getD p []) := by
 obtain ⟨K, _, hP⟩ := h.pull (Nat.le_refl _)
 rw [List.take_of_length_le (by rw [(run_take h.run 0 (by omega)).2]; exact Nat.le_refl _)] at hP
 have := hP.low p hp
 rw [this] at hk ⊢
 split
 ·exact hP.made.at p
 ·rename_i h1; rw [if_neg h1] at hk; exact absurd rfl hk
theorem Known.first {xs : List In} {nm : Nat} {known : List St} (h : Known xs nm known) : known.getD 0 [] ≠ [] /\ ∀ R, WR R -> HoldS (known.getD 0 []) R := by
 have hpos := h.T.pos
 have e := (run_at h.run hpos).1
 have hc : comesU xs (known.take 0) 0 0 = [List.replicate 8 Ty.nil] := rfl
 unfold atJ at e
 rw [hc, if_neg (by simp)] at e
 have hm : Made8 nm (joinS [List.replicate 8 Ty.nil] 8) := made_joinS (by simp) (fun c hc => by rw [List.mem_singleton.1 hc]; exact made_zero nm)
 refine ⟨fun h0 => ?_, fun R hR => ?_⟩
 ·have h1 := (made_widen (xs := xs) hm 0 xs.length).1
  rw [<- e, h0] at h1
  cases h1
 ·rw [e]
  refine widen_hold hR hm (joinS_hold (nm := nm) (fun c hc => by rw [List.mem_singleton.1 hc]; exact made_zero nm) (List.mem_singleton.2 rfl) fun r hr => ?_) _
  rw [show (List.replicate 8 Ty.nil).getD r Ty.nil = Ty.nil by rw [List.getD_eq_getElem?_getD, List.getElem?_replicate, if_pos hr]; rfl]
  exact hold_nil _
theorem Known.way {xs : List In} {nm : Nat} {known : List St} (h : Known xs nm known) {p x : Nat} (hx : x < xs.length) (hpx : p < x) (hk : known.getD p [] ≠ []) {b : Bool} (hw : (b = true /\ (nth xs p).leads = true /\ (p : Int) + (nth xs p).far = x) ∨ (b = false /\ (nth xs p).on = true /\ p + 1 = x)) {s' : St} (hl : leavesJ (nth xs p) (known.getD p []) b = some s') :
  known.getD x [] ≠ [] /\ ∀ R, WR R -> HoldS s' R -> HoldS (known.getD x []) R := by
 obtain ⟨K, h1, hP⟩ := h.pull (x := x) (by omega)
 have e := (run_at h.run hx).1
 have hmem : s' ∈ comesU xs (known.take x) x x := by
  unfold comesU
  refine List.mem_append_right _ (List.mem_flatMap.2 ⟨p, List.mem_range.2 hpx, ?_⟩)
  unfold stepC
  rw [take_at9 hpx, if_neg (fun h0 => hk (List.length_eq_zero_iff.1 h0))]
  rcases hw with ⟨rfl, h2, h3⟩ | ⟨rfl, h2, h3⟩
  ·refine List.mem_append_left _ ?_
   rw [h2, Bool.true_and, if_pos (decide_eq_true h3), hl]
   simp
  ·refine List.mem_append_right _ ?_
   rw [h2, Bool.true_and, if_pos (decide_eq_true h3), hl]
   simp
 have hne : comesU xs (known.take x) x x ≠ [] := fun h0 => by rw [h0] at hmem; cases hmem
 unfold atJ at e
 rw [if_neg (fun h0 => hne (List.length_eq_zero_iff.1 h0))] at e
 have hm := made_joinS hne (hP.cm x)
 refine ⟨fun h0 => ?_, fun R hR hS => ?_⟩
 ·have h2 := (made_widen (xs := xs) hm x xs.length).1
  rw [<- e, h0] at h2
  cases h2
 ·rw [e]
  exact widen_hold hR hm (joinS_hold (hP.cm x) hmem hS) _
theorem Known.asks {xs : List In} {nm : Nat} {known : List St} (h : Known xs nm known) {p : Nat} (hp : p < xs.length) (hk : known.getD p [] ≠ []) : asksJ nm (nth xs p) (known.getD p []) (headJ xs (known.take p) (known.getD p []) p) = 0 := by
 have := (run_at h.run hp).2
 unfold errJ at this
 rwa [if_neg (fun h0 => hk (List.length_eq_zero_iff.1 h0))] at this
theorem Known.back {xs : List In} {nm : Nat} {known : List St} (h : Known xs nm known) {p : Nat} (hp : p < xs.length) (hk : known.getD p [] ≠ []) (h20 : (nth xs p).op = 20) : ∃ q : Nat, (q : Int) = p + (nth xs p).far /\ q < p /\ known.getD q [] ≠ [] /\ ∀ R, HoldS (known.getD p []) R -> HoldS (known.getD q []) R := by
 obtain ⟨K, h1, hP⟩ := h.pull (x := p) (by omega)
 have hr := h.T.right hp
 have hpl := place_ok hp (h.T.place p hp)
 have hg : (nth xs p).far = -(nth xs p).d /\ 1 <= (nth xs p).d := by
  rcases goes_parts (nth xs p) with h | h | h | h
  ·rw [hr] at h; cases h.1
  ·omega
  ·exact ⟨h.2.2.1, h.2.2.2.2.2.1⟩
  ·omega
 have hq : ((p : Int) - (nth xs p).d).toNat < p := by omega
 have ha := h.asks hp hk
 have hne : comesU xs (known.take p) p p ≠ [] := fun h0 => by
  have e := (run_at h.run hp).1
  unfold atJ at e
  rw [h0, if_pos (show ([] : List St).length = 0 from rfl)] at e
  exact hk e
 have hkn := (hP.high p (Nat.le_refl _) hp).1.2 hne
 have hml : lpAt xs p ∈ loopsL xs := loopsU_mem.2 ⟨p, hp, h20, rfl⟩
 have hhd := (run_heads h.T (by omega) h1).2 _ hml p (by show (p : Int) + (nth xs p).far < p; omega) (Int.le_refl _) hkn
 have e2 : (lpAt xs p).h.toNat = ((p : Int) - (nth xs p).d).toNat := by show ((p : Int) + (nth xs p).far).toNat = _; omega
 rw [e2] at hhd
 have hlow := hP.low _ hq
 rw [take_at9 hq, if_pos hhd] at hlow
 have hhead : headJ xs (known.take p) (known.getD p []) p = known.getD ((p : Int) - (nth xs p).d).toNat [] := by
  unfold headJ
  rw [if_pos h20, getD_app_l (by rw [hP.len]; exact hq), take_at9 hq]
 rw [hhead] at ha
 refine ⟨((p : Int) - (nth xs p).d).toNat, by omega, hq, fun h0 => ?_, fun R hS => ?_⟩
 ·have h8 := (hP.made.at ((p : Int) - (nth xs p).d).toNat).1
  rw [<- hlow, h0] at h8
  cases h8
 ·unfold asksJ at ha
  rw [if_neg (by omega), if_neg (by omega), if_neg (by omega), if_neg (by omega), if_neg (by omega), if_pos h20] at ha
  split at ha
  ·cases ha
  split at ha
  ·rename_i hf; exact fitsAll_hold hf hS
  ·cases ha
end Go.Proofs.YtkondcjmhlppiaaGreat
