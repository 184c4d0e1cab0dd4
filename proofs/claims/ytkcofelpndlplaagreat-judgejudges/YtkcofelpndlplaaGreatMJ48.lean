/-
  JInquire
  JRun
  JJudge
  JTypes
-/
import Derived.Test.YtkcofelpndlplaaGreatMJ42
import Derived.Test.YtkcofelpndlplaaGreatMJ33
import Derived.Test.YtkcofelpndlplaaGreatMJ13
import Derived.Laws.MakeOwn
namespace Go.Proofs.YtkcofelpndlplaaGreat
open List (getElem_toArray getElem_cons_zero getElem_cons_succ setIfInBounds_toArray set_cons_zero set_cons_succ)
open Go.RowKit
set_option linter.unusedVariables false
set_option linter.unusedSimpArgs false
set_option maxRecDepth 100000
def blurK (xs : List In) (p : Nat) (K : Kn) : Kn := K.set p ((K.getD p kn0).1, blurAll xs p (loopsL xs) (K.getD p kn0).2)
def askE (xs : List In) (nm p : Nat) (K : Kn) : Int := asksJ nm (nth xs p) (K.getD p kn0).2 (K.getD ((p : Int) + (nth xs p).far).toNat kn0).2
def stepK (xs : List In) (nm p : Nat) (K : Kn) : Except Int Kn :=
 if (K.getD p kn0).1 = false then .ok K
 else if askE xs nm p (blurK xs p K) ≠ 0 then .error (askE xs nm p (blurK xs p K))
 else .ok (leaveK (nth xs p) p (blurK xs p K))
def runK (xs : List In) (nm : Nat) : Nat -> Except (Nat × Int) Kn
 | 0 => .ok (arrK (List.replicate xs.length kn0) 0 true stZ)
 | p + 1 => match runK xs nm p with
  | .error e => .error e
  | .ok K => match stepK xs nm p K with
   | .error E => .error (p, E)
   | .ok K' => .ok K'
theorem run_err {xs : List In} {nm p : Nat} {e : Nat × Int} (h : runK xs nm p = .error e) : ∀ n, p <= n -> runK xs nm n = .error e := by
  intro n hn
  induction n with
  | zero => obtain rfl : p = 0 := by omega
            exact h
  | succ n ih =>
    by_cases hp : p = n + 1
    · subst hp; exact h
    · rw [runK, ih (by omega)]
theorem leaveK_len (i : In) (p : Nat) (K : Kn) : (leaveK i p K).length = K.length := by
 unfold leaveK
 split
 ·rfl
 split
 ·exact arrK_len _ _ _ _
 split
 ·rw [arrK_len, arrK_len]
 ·exact arrK_len _ _ _ _
theorem made_blurK {nm : Nat} {xs : List In} {p : Nat} {K : Kn} (h : MadeK nm K) : MadeK nm (blurK xs p K) := h.set p (made_blurAll _ (h.at p))
theorem made_leaveK {nm : Nat} {i : In} {p : Nat} {K : Kn} {head : St} (hr : i.right = true) (hM : MadeK nm K) (ha : asksJ nm i (K.getD p kn0).2 head = 0) : MadeK nm (leaveK i p K) := by
 unfold leaveK
 split
 ·exact hM
 split
 ·exact made_arr hM _ _ (hM.at p)
 split
 ·rename_i ho
  exact made_arr (made_arr hM _ _ (made_ref hr (hM.at p) ha ho)) _ _ (made_ref hr (hM.at p) ha ho)
 ·rename_i ho
  exact made_arr hM _ _ (made_leaves hr (hM.at p) ha (wr_leaves hr _ ho false))
theorem made_rep (nm n : Nat) : MadeK nm (List.replicate n kn0) := fun p hp => by rw [List.eq_of_mem_replicate hp]; exact made_zero nm
theorem flat_rep_at (n j : Nat) (hj : j < n * 33) : (flatK (List.replicate n kn0))[j]? = zeroC[j % 33]? := by
 have h8 : Eight (List.replicate n kn0) := (made_rep 0 n).eight
 have := flatK_at h8 (k := j / 33) (j := j % 33) (by simp; omega) (by omega)
 rw [show j / 33 * 33 + j % 33 = j by omega] at this
 rw [this, show (List.replicate n kn0).getD (j / 33) kn0 = kn0 by simp [List.getD, List.getElem?_replicate]; split <;> rfl]
 rfl
theorem made_cells (n : Nat) : madeCells zeroC.toArray (n * 33) = (flatK (List.replicate n kn0)).toArray := by
 have h8 : Eight (List.replicate n kn0) := (made_rep 0 n).eight
 apply Array.ext_getElem?
 intro j
 by_cases hj : j < n * 33
 ·rw [show (flatK (List.replicate n kn0)).toArray[j]? = (flatK (List.replicate n kn0))[j]? from List.getElem?_toArray, flat_rep_at n j hj]
  have hz : zeroC.toArray.size = 33 := rfl
  simp only [madeCells, Array.getElem?_map]
  rw [Array.getElem?_range]
  simp only [hj, if_true, Option.map_some, hz]
  have hl : j % 33 < zeroC.length := by rw [zeroC_len]; omega
  rw [List.getElem?_eq_getElem hl]
  simp [hl]
 ·rw [Array.getElem?_eq_none (by rw [size_madeCells]; omega), show (flatK (List.replicate n kn0)).toArray[j]? = (flatK (List.replicate n kn0))[j]? from List.getElem?_toArray, List.getElem?_eq_none (by rw [flatK_len h8, List.length_replicate]; omega)]
theorem run_makeK (n : Nat) (hn : n <= 64) (w : World) : (Instr.makeSlice 51 (.int .i64 n) (.int .i64 n)).run Tryz.prog w = .ok (.slice (some ⟨w.heap.size, 0, none⟩) n n) (w.alloc (.cells (flatK (List.replicate n kn0)).toArray 62)) := by
 have hi : ∃ i, Tryz.prog.info? 62 = some i /\ i.size = 33 /\ i.zero = some (.agg zeroC.toArray) /\ i.bytes <= 1000000 := ⟨_, rfl, rfl, rfl, by decide⟩
 obtain ⟨i, h1, h2, h3, h4⟩ := hi
 have := run_make (P := Tryz.prog) w 51 62 i _ Tryz.underlying51 h1 h3 .i64 .i64 n n (by omega) (Int.le_refl _) (by have : (i.bytes : Int) * n <= 1000000 * 64 := Int.mul_le_mul (by omega) (by omega) (by omega) (by omega); omega) (by omega)
 rw [h2] at this
 simp only [Int.toNat_natCast, Value.cells] at this
 rw [made_cells] at this
 exact this
def Begun (w3 wc : World) (nm : Nat) (vl : Value) (cb co ccap : Nat) (xs : List In) (ls : List Lp) (v : Value) : Prop := ∃ qb kb, v = .pointer (some ⟨qb, 0, none⟩) /\ Inq w3 wc qb kb nm vl cb co ccap xs ls (List.replicate xs.length kn0)
theorem keepM2 {w w' : World} {x : Nat} {u v : Value} (h : w.cell? ⟨x, 0, none⟩ = some u /\ w.cell? ⟨x, 1, none⟩ = some v) (hb : Below w.heap.size w w') (hx : x < w.heap.size) : w'.cell? ⟨x, 0, none⟩ = some u /\ w'.cell? ⟨x, 1, none⟩ = some v := by
 rw [hb.cell (p := ⟨x, 0, none⟩) hx, hb.cell (p := ⟨x, 1, none⟩) hx]; exact h
set_option maxHeartbeats 6400000 in
theorem linq_run (vm : Value) (ms : List Int) (cb co ccap : Nat) (xs : List In) (w : World) (hm : Sees .i64 w vm ms) (hx : SeesI w (.slice (some ⟨cb, co, none⟩) xs.length ccap) xs) (hmf : Hid (mapsJ ms = true)) (hE : Hid (0 = errL xs)) :
  Calls Tryz.prog 13 #[.agg #[vm, .slice (some ⟨cb, co, none⟩) xs.length ccap]] w fun e w' =>
   (∃ (p : Nat) (E : Int), runK xs ms.length xs.length = .error (p, E) /\ E ≠ 0 /\ p < xs.length /\ e = .returned (.tuple #[.slice none 0 0, .int .i64 p, .int .i64 E]) /\ Below w.heap.size w w') ∨
   (∃ (K : Kn) (kb : Nat), runK xs ms.length xs.length = .ok K /\ e = .returned (.tuple #[.slice (some ⟨kb, 0, none⟩) xs.length xs.length, .int .i64 0, .int .i64 0]) /\ Hp w' kb 62 (flatK K) /\ w.heap.size <= kb /\ K.length = xs.length /\ MadeK ms.length K /\ Below w.heap.size w w') := by
 have hT : Taken xs := check_ok.1 hE.out.symm
 have HT := keepJ hT
 have HX := keepJ hx
 have HMS := keepJ hm
 obtain ⟨ma, mcap, rfl⟩ : ∃ a c, vm = .slice a ms.length c := by obtain ⟨a, c, h, _⟩ := hm; exact ⟨a, c, h⟩
 obtain ⟨nm, HNM⟩ : ∃ nm, Hid (ms.length = nm) := ⟨_, rfl⟩
 rw [HNM.out] at HMS ⊢
 obtain ⟨P, HP0⟩ : ∃ P, Hid (P = (checkL xs).1) := ⟨_, rfl⟩
 have h64 := hT.top
 have hx64 : (xs.length : Int) <= 64 := by omega
 have hpos : 0 < xs.length := hT.pos
 obtain ⟨W, HW, HBW, hWz, hWz2, m0, m1⟩ : ∃ W, Hid (W = w.alloc (Obj.cells #[.slice ma nm mcap, .slice (some ⟨cb, co, none⟩) xs.length ccap] 25)) /\ Hid (Below w.heap.size w W) /\ w.heap.size < W.heap.size /\ W.heap.size <= w.heap.size + 1 /\ W.cell? ⟨w.heap.size, 0, none⟩ = some (.slice ma nm mcap) /\ W.cell? ⟨w.heap.size, 1, none⟩ = some (.slice (some ⟨cb, co, none⟩) xs.length ccap) :=
  ⟨_, rfl, keepJ (by go_grown), by simp, by simp, by go_cell, by go_cell⟩
 have HXW := keepJ (HX.out.below HBW.out)
 have HMW := keepJ (HMS.out.below HBW.out (Nat.le_refl _))
 clear hx hm hT
 go_enter Tryz.func13, Tryz.ntmps13
 go_wp2_with (first
  | (go_at_call 19; rw [<- HW.out]; go_must (refine (lmapsFit_any _ ms _ HMW.out hmf).mono ?_); rintro e w' ⟨rfl, rfl⟩)
  | (go_at_call 20; go_must (refine (check_as HXW.out HP0 hE).mono ?_); rintro e w2 ⟨rfl, hb2⟩; go_must (have hS2 := keepM2 ⟨m0, m1⟩ hb2 hWz; have hz2 := hb2.size; have HX2 := keepJ (HXW.out.below hb2); clear m0 m1; obtain ⟨m0, m1⟩ := hS2))
  | (go_at_call 21; go_must (refine (lloops_any _ xs _ HX2.out hE).mono ?_); rintro e w3 ⟨u3, rfl, hown3, hb3⟩; go_must (have hS3 := keepM2 ⟨m0, m1⟩ hb3 (by omega); have hz3 := hb3.size; have HX3 := keepJ (HX2.out.below hb3); have HL3 := keepJ (own_seesL hown3); have HB3 := keepJ (HBW.out.trans ((hb2.trans (hb3.mono hz2)).mono HBW.out.size)); obtain ⟨la, lcap, rfl⟩ := own_shapeT hown3; clear m0 m1 hown3 hb2 hb3; obtain ⟨m0, m1⟩ := hS3)))
 -- THE REGION
 obtain ⟨ls, HLS, HLL⟩ : ∃ ls, Hid (loopsA xs = ls) /\ Hid (ls = loopsL xs) := ⟨_, rfl, by show _ = _; unfold loopsA; rw [if_pos hE.out.symm]⟩
 rw [HLS.out] at HL3 ⊢
 clear HLS
 obtain ⟨MC, HMC⟩ : ∃ MC, Hid (MC = flatK (List.replicate xs.length kn0)) := ⟨_, rfl⟩
 have hmk : ∀ wx : World, (Instr.makeSlice 51 (.int .i64 xs.length) (.int .i64 xs.length)).run Tryz.prog wx = .ok (.slice (some ⟨wx.heap.size, 0, none⟩) xs.length xs.length) (wx.alloc (.cells MC.toArray 62)) := fun wx => by rw [HMC.out]; exact run_makeK xs.length h64 wx
 have HP : Hid (∀ w', Below w3.heap.size w3 w' -> w'.cell? ⟨w.heap.size, 0, none⟩ = some (.slice ma nm mcap) /\ w'.cell? ⟨w.heap.size, 1, none⟩ = some (.slice (some ⟨cb, co, none⟩) xs.length ccap)) := fun w' hb' => keepM2 ⟨m0, m1⟩ hb' (by omega)
 go_cut [9] from 12 (fun v9 wc => Begun w3 wc nm (.slice la ls.length lcap) cb co ccap xs ls v9)
 case first =>
  clear m0 m1
  refine wp_region_held_drew (S := fun w' => w'.cell? ⟨w.heap.size, 0, none⟩ = some (.slice ma nm mcap) /\ w'.cell? ⟨w.heap.size, 1, none⟩ = some (.slice (some ⟨cb, co, none⟩) xs.length ccap)) (by kernel_rfl) (HP.out _ (Below.refl _ _).drew) (fun hHeld => ?_)
  refine wpAnyH_take (i := 0) (v := ?v1) rfl (by kernel_rfl) (by kernel_rfl) (by kernel_rfl) (fun _ _ _ h => h) (Or.inl ⟨by rfl, ?hy1⟩) (by assumption) ?rest1
  case hy1 => (intro wy hSw; (try dsimp only at hSw); go_simp; (first | done | with_reducible rfl))
  try simp only [Act.put, getElem_toArray, getElem_cons_zero, getElem_cons_succ, setIfInBounds_toArray, set_cons_zero, set_cons_succ]
  refine wpAnyH_take (i := 1) (v := ?v2) rfl (by kernel_rfl) (by kernel_rfl) (by kernel_rfl) (fun _ _ _ h => h) (Or.inl ⟨by rfl, ?hy2⟩) (by assumption) ?rest2
  case hy2 => (intro wy hSw; (try dsimp only at hSw); go_simp; (first | done | with_reducible rfl))
  try simp only [Act.put, getElem_toArray, getElem_cons_zero, getElem_cons_succ, setIfInBounds_toArray, set_cons_zero, set_cons_succ]
  refine wpAnyH_take (i := 2) (v := ?v3) rfl (by kernel_rfl) (by kernel_rfl) (by kernel_rfl) (fun _ _ _ h => h) (Or.inl ⟨by rfl, ?hy3⟩) (by assumption) ?rest3
  case hy3 => (intro wy hSw; (try dsimp only at hSw); go_simp; (first | done | with_reducible rfl))
  try simp only [Act.put, getElem_toArray, getElem_cons_zero, getElem_cons_succ, setIfInBounds_toArray, set_cons_zero, set_cons_succ]
  refine wpAnyH_take (i := 3) (v := ?v4) rfl (by kernel_rfl) (by kernel_rfl) (by kernel_rfl) (fun _ _ _ h => h) (Or.inl ⟨by rfl, ?hy4⟩) (by assumption) ?rest4
  case hy4 => (intro wy hSw; (try dsimp only at hSw); go_simp; (first | done | with_reducible rfl))
  try simp only [Act.put, getElem_toArray, getElem_cons_zero, getElem_cons_succ, setIfInBounds_toArray, set_cons_zero, set_cons_succ]
  refine wpAnyH_take (i := 4) (v := ?v5) rfl (by kernel_rfl) (by kernel_rfl) (by kernel_rfl) (fun _ _ _ h => h) (Or.inl ⟨by rfl, ?hy5⟩) (by assumption) ?rest5
  case hy5 => (intro wy hSw; (try dsimp only at hSw); go_simp; (first | done | with_reducible rfl))
  try simp only [Act.put, getElem_toArray, getElem_cons_zero, getElem_cons_succ, setIfInBounds_toArray, set_cons_zero, set_cons_succ]
  refine wpAnyH_take (i := 5) (v := ?v6) rfl (by kernel_rfl) (by kernel_rfl) (by kernel_rfl) (fun _ _ _ h => h) (Or.inl ⟨by rfl, ?hy6⟩) (by assumption) ?rest6
  case hy6 => (intro wy hSw; (try dsimp only at hSw); go_simp; (first | done | with_reducible rfl))
  try simp only [Act.put, getElem_toArray, getElem_cons_zero, getElem_cons_succ, setIfInBounds_toArray, set_cons_zero, set_cons_succ]
  refine wpAnyH_take (i := 6) (v := ?v7) rfl (by kernel_rfl) (by kernel_rfl) (by kernel_rfl) (fun _ _ _ h => h) (Or.inl ⟨by rfl, ?hy7⟩) (by assumption) ?rest7
  case hy7 => (intro wy hSw; (try dsimp only at hSw); go_simp; (first | done | with_reducible rfl))
  try simp only [Act.put, getElem_toArray, getElem_cons_zero, getElem_cons_succ, setIfInBounds_toArray, set_cons_zero, set_cons_succ]
  refine wpAnyH_take (i := 7) (v := ?v8) rfl (by kernel_rfl) (by kernel_rfl) (by kernel_rfl) (fun _ _ _ h => h) (Or.inl ⟨by rfl, ?hy8⟩) (by assumption) ?rest8
  case hy8 => (intro wy hSw; (try dsimp only at hSw); go_simp; (first | done | with_reducible rfl))
  try simp only [Act.put, getElem_toArray, getElem_cons_zero, getElem_cons_succ, setIfInBounds_toArray, set_cons_zero, set_cons_succ]
  refine wpAnyH_take (i := 8) (v := ?v9) rfl (by kernel_rfl) (by kernel_rfl) (by kernel_rfl) (fun _ _ _ h => h) (Or.inl ⟨by rfl, ?hy9⟩) (by assumption) ?rest9
  case hy9 => (intro wy hSw; (try dsimp only at hSw); go_simp; (first | done | with_reducible rfl))
  try simp only [Act.put, getElem_toArray, getElem_cons_zero, getElem_cons_succ, setIfInBounds_toArray, set_cons_zero, set_cons_succ]
  refine wpAnyH_ready (rs := [9, 11]) (by kernel_rfl) (by simp) ?_
  refine AllReadyH.cons rfl (fun KK hK => ?_) (AllReadyH.cons rfl (fun KK hK => ?_) AllReadyH.nil) <;> rw [if_pos (by rfl)]
  ·go_simp
   refine hK.out _ _ (HP.out _ ((Below.refl _ _).alloc (Nat.le_refl _) _).drew) (fun hHeld => ?_)
   clear hK KK
   try simp only [Act.put, getElem_toArray, getElem_cons_zero, getElem_cons_succ, setIfInBounds_toArray, set_cons_zero, set_cons_succ]
   refine wpAnyH_take (i := 10) (v := ?v10) rfl (by kernel_rfl) (by kernel_rfl) (by kernel_rfl) (fun _ _ _ h => h) (Or.inl ⟨by rfl, ?hy10⟩) (by assumption) ?rest10
   case hy10 => (intro wy hSw; (try dsimp only at hSw); go_simp; (first | done | with_reducible rfl))
   try simp only [Act.put, getElem_toArray, getElem_cons_zero, getElem_cons_succ, setIfInBounds_toArray, set_cons_zero, set_cons_succ]
   refine wpAnyH_ready (rs := [11]) (by kernel_rfl) (by simp) ?_
   refine AllReadyH.cons rfl (fun KK hK => ?_) AllReadyH.nil
   rw [if_pos (by rfl)]
   go_simp
   obtain ⟨Y, HY, HqY, HkY, hbY, hzY⟩ : ∃ Y, Hid (Y = (w3.alloc (Obj.cells MC.toArray 62)).alloc (Obj.cells #[.int .i64 0, .slice none 0 0, .slice none 0 0, .slice none 0 0] 69)) /\ Hid (Hp Y (w3.heap.size + 1) 69 [.int .i64 0, .slice none 0 0, .slice none 0 0, .slice none 0 0]) /\ Hid (Hp Y w3.heap.size 62 MC) /\ Below w3.heap.size w3 Y /\ w3.heap.size + 2 <= Y.heap.size :=
    ⟨_, rfl, keepJ (by have := Hp.new (w3.alloc (Obj.cells MC.toArray 62)) [.int .i64 0, .slice none 0 0, .slice none 0 0, .slice none 0 0] 69; simpa using this), (Hp.new w3 MC _).alloc _, by go_grown, by simp⟩
   rw [<- HY.out]
   clear HY
   refine hK.out _ _ (HP.out _ hbY.drew) (fun hHeld => ?_)
   clear hK KK
   try simp only [Act.put, getElem_toArray, getElem_cons_zero, getElem_cons_succ, setIfInBounds_toArray, set_cons_zero, set_cons_succ]
   have n0 : Y.cell? ⟨(w3.heap.size + 1), 0, none⟩ = some (.int .i64 0) := HqY.out.cell rfl
   have n1 : Y.cell? ⟨(w3.heap.size + 1), 1, none⟩ = some (.slice none 0 0) := HqY.out.cell rfl
   have n2 : Y.cell? ⟨(w3.heap.size + 1), 2, none⟩ = some (.slice none 0 0) := HqY.out.cell rfl
   have n3 : Y.cell? ⟨(w3.heap.size + 1), 3, none⟩ = some (.slice none 0 0) := HqY.out.cell rfl
   have f0 := HqY.out.frozen 0
   have f1 := HqY.out.frozen 1
   have f2 := HqY.out.frozen 2
   have f3 := HqY.out.frozen 3
   refine wpAnyH_ready (rs := [12]) (by kernel_rfl) (by simp) ?_
   refine AllReadyH.cons rfl (fun KK hK => ?_) AllReadyH.nil
   rw [if_pos (by rfl)]
   go_simp
   clear n0 n1 n2 n3 f0 f1 f2 f3
   obtain ⟨V, HV, HqV, HkV, hbV⟩ : ∃ V, Hid (V = ((((Y.setCell ⟨(w3.heap.size + 1), 0, none⟩ (.int .i64 nm)).setCell ⟨(w3.heap.size + 1), 1, none⟩ (.slice (some ⟨cb, co, none⟩) xs.length ccap)).setCell ⟨(w3.heap.size + 1), 2, none⟩ (.slice la ls.length lcap)).setCell ⟨(w3.heap.size + 1), 3, none⟩ (.slice (some ⟨w3.heap.size, 0, none⟩) xs.length xs.length))) /\ Hid (Hp V (w3.heap.size + 1) 69 (qC nm (.slice (some ⟨cb, co, none⟩) xs.length ccap) (.slice la ls.length lcap) w3.heap.size xs.length)) /\ Hid (Hp V w3.heap.size 62 MC) /\ Below w3.heap.size w3 V := ⟨_, rfl, HqY.out.sets (qC nm (.slice (some ⟨cb, co, none⟩) xs.length ccap) (.slice la ls.length lcap) w3.heap.size xs.length) 0, HkY.out.fars (by omega) (qC nm (.slice (some ⟨cb, co, none⟩) xs.length ccap) (.slice la ls.length lcap) w3.heap.size xs.length) 0, hbY.trans (grown_to_below (grown_sets _ (qC nm (.slice (some ⟨cb, co, none⟩) xs.length ccap) (.slice la ls.length lcap) w3.heap.size xs.length) Y 0) (by omega) hbY.size)⟩
   rw [<- HV.out]
   clear HV
   refine hK.out _ _ (HP.out _ hbV.drew) (fun hHeld => ?_)
   clear hK KK
   try simp only [Act.put, getElem_toArray, getElem_cons_zero, getElem_cons_succ, setIfInBounds_toArray, set_cons_zero, set_cons_succ]
   refine wpAnyH_done (by kernel_rfl) ?_ _
   go_wp2
   go_meet
   case rel => exact ⟨(w3.heap.size + 1), w3.heap.size, rfl, hbV.drew, HqV.out.drew, by rw [<- HMC.out]; exact HkV.out.drew, by simp, by omega, by omega, by omega, (made_rep 0 _).eight, HX3.out, HL3.out⟩
  ·go_simp
   refine hK.out _ _ (HP.out _ ((Below.refl _ _).alloc (Nat.le_refl _) _).drew) (fun hHeld => ?_)
   clear hK KK
   try simp only [Act.put, getElem_toArray, getElem_cons_zero, getElem_cons_succ, setIfInBounds_toArray, set_cons_zero, set_cons_succ]
   refine wpAnyH_ready (rs := [9]) (by kernel_rfl) (by simp) ?_
   refine AllReadyH.cons rfl (fun KK hK => ?_) AllReadyH.nil
   rw [if_pos (by rfl)]
   go_simp
   obtain ⟨Y, HY, HqY, HkY, hbY, hzY⟩ : ∃ Y, Hid (Y = (w3.alloc (Obj.cells #[.int .i64 0, .slice none 0 0, .slice none 0 0, .slice none 0 0] 69)).alloc (Obj.cells MC.toArray 62)) /\ Hid (Hp Y w3.heap.size 69 [.int .i64 0, .slice none 0 0, .slice none 0 0, .slice none 0 0]) /\ Hid (Hp Y (w3.heap.size + 1) 62 MC) /\ Below w3.heap.size w3 Y /\ w3.heap.size + 2 <= Y.heap.size :=
    ⟨_, rfl, (Hp.new w3 [.int .i64 0, .slice none 0 0, .slice none 0 0, .slice none 0 0] _).alloc _, keepJ (by have := Hp.new (w3.alloc (Obj.cells #[.int .i64 0, .slice none 0 0, .slice none 0 0, .slice none 0 0] 69)) MC 62; simpa using this), by go_grown, by simp⟩
   rw [<- HY.out]
   clear HY
   refine hK.out _ _ (HP.out _ hbY.drew) (fun hHeld => ?_)
   clear hK KK
   try simp only [Act.put, getElem_toArray, getElem_cons_zero, getElem_cons_succ, setIfInBounds_toArray, set_cons_zero, set_cons_succ]
   refine wpAnyH_take (i := 10) (v := ?v11) rfl (by kernel_rfl) (by kernel_rfl) (by kernel_rfl) (fun _ _ _ h => h) (Or.inl ⟨by rfl, ?hy11⟩) (by assumption) ?rest11
   case hy11 => (intro wy hSw; (try dsimp only at hSw); go_simp; (first | done | with_reducible rfl))
   try simp only [Act.put, getElem_toArray, getElem_cons_zero, getElem_cons_succ, setIfInBounds_toArray, set_cons_zero, set_cons_succ]
   have n0 : Y.cell? ⟨w3.heap.size, 0, none⟩ = some (.int .i64 0) := HqY.out.cell rfl
   have n1 : Y.cell? ⟨w3.heap.size, 1, none⟩ = some (.slice none 0 0) := HqY.out.cell rfl
   have n2 : Y.cell? ⟨w3.heap.size, 2, none⟩ = some (.slice none 0 0) := HqY.out.cell rfl
   have n3 : Y.cell? ⟨w3.heap.size, 3, none⟩ = some (.slice none 0 0) := HqY.out.cell rfl
   have f0 := HqY.out.frozen 0
   have f1 := HqY.out.frozen 1
   have f2 := HqY.out.frozen 2
   have f3 := HqY.out.frozen 3
   refine wpAnyH_ready (rs := [12]) (by kernel_rfl) (by simp) ?_
   refine AllReadyH.cons rfl (fun KK hK => ?_) AllReadyH.nil
   rw [if_pos (by rfl)]
   go_simp
   clear n0 n1 n2 n3 f0 f1 f2 f3
   obtain ⟨V, HV, HqV, HkV, hbV⟩ : ∃ V, Hid (V = ((((Y.setCell ⟨w3.heap.size, 0, none⟩ (.int .i64 nm)).setCell ⟨w3.heap.size, 1, none⟩ (.slice (some ⟨cb, co, none⟩) xs.length ccap)).setCell ⟨w3.heap.size, 2, none⟩ (.slice la ls.length lcap)).setCell ⟨w3.heap.size, 3, none⟩ (.slice (some ⟨(w3.heap.size + 1), 0, none⟩) xs.length xs.length))) /\ Hid (Hp V w3.heap.size 69 (qC nm (.slice (some ⟨cb, co, none⟩) xs.length ccap) (.slice la ls.length lcap) (w3.heap.size + 1) xs.length)) /\ Hid (Hp V (w3.heap.size + 1) 62 MC) /\ Below w3.heap.size w3 V := ⟨_, rfl, HqY.out.sets (qC nm (.slice (some ⟨cb, co, none⟩) xs.length ccap) (.slice la ls.length lcap) (w3.heap.size + 1) xs.length) 0, HkY.out.fars (by omega) (qC nm (.slice (some ⟨cb, co, none⟩) xs.length ccap) (.slice la ls.length lcap) (w3.heap.size + 1) xs.length) 0, hbY.trans (grown_to_below (grown_sets _ (qC nm (.slice (some ⟨cb, co, none⟩) xs.length ccap) (.slice la ls.length lcap) (w3.heap.size + 1) xs.length) Y 0) (by omega) hbY.size)⟩
   rw [<- HV.out]
   clear HV
   refine hK.out _ _ (HP.out _ hbV.drew) (fun hHeld => ?_)
   clear hK KK
   try simp only [Act.put, getElem_toArray, getElem_cons_zero, getElem_cons_succ, setIfInBounds_toArray, set_cons_zero, set_cons_succ]
   refine wpAnyH_done (by kernel_rfl) ?_ _
   go_wp2
   go_meet
   case rel => exact ⟨w3.heap.size, (w3.heap.size + 1), rfl, hbV.drew, HqV.out.drew, by rw [<- HMC.out]; exact HkV.out.drew, by simp, by omega, by omega, by omega, (made_rep 0 _).eight, HX3.out, HL3.out⟩
 case rest =>
  obtain ⟨qb, kb, rfl, hInq⟩ := hcut
  have HQ := keepJ hInq
  have hs0 : Made8 nm stZ := made_zero nm
  have HM0 := keepJ (made_rep nm xs.length)
  have H0 : Hid ((0 : Int) = ((0 : Nat) : Int)) := rfl
  clear hInq hmk HP m0 m1 HMC
  go_wp2_with (first
   | (go_at_call 22; go_must (refine (larrive_inq HQ.out H0 hpos true hs0 HM0.out).mono ?_); rintro e w5 ⟨rfl, hg5, hq5, hm5⟩; go_must (have HQ5 := keepJ hq5; have HM5 := keepJ hm5; have q1 : w5.cell? ⟨qb, 1, none⟩ = some (.slice (some ⟨cb, co, none⟩) xs.length ccap) := hq5.q.cell rfl; clear hg5 hq5 hm5)))
  clear q1
  go_loopw [48] (fun i wr => ∃ k : Nat, k <= xs.length /\ i = .int .i64 k /\ Hid (∃ K, runK xs nm k = .ok K /\ Inq w3 wr qb kb nm (.slice la ls.length lcap) cb co ccap xs ls K /\ MadeK nm K)) (fun i _ => xs.length - (intOf i).toNat)
  case atStart => exact ⟨0, by omega, rfl, _, rfl, HQ5.out, HM5.out⟩
  case round =>
   obtain ⟨k, hk, rfl, HI⟩ := hrel
   obtain ⟨K, hrun, hq, hM⟩ := HI.out
   have HRN := keepJ hrun
   have HQK := keepJ hq
   have HMK := keepJ hM
   have q3 : wr.cell? ⟨qb, 3, none⟩ = some (.slice (some ⟨kb, 0, none⟩) xs.length xs.length) := hq.q.cell rfl
   by_cases hlt : k < xs.length
   ·have hkI : (k : Int) < xs.length := by omega
    obtain ⟨r, s, HR⟩ : ∃ r s, Hid (K.getD k kn0 = (r, s)) := ⟨_, _, rfl⟩
    have k0 : wr.cell? ⟨kb, k * 33, none⟩ = some (.bool r) := (hq.k.state hq.e8 (by rw [hq.len]; exact hlt) HR.out).cell
    clear hrun hq hM HI
    cases r with
    | false =>
     have HN : Hid (runK xs nm (k + 1) = .ok K) := by show _ = _; rw [runK, HRN.out]; simp only [stepK]; rw [HR.out]; rfl
     go_wp2
     go_roundw
     case rel => exact ⟨k + 1, by omega, by go_num, K, HN.out, HQK.out, HMK.out⟩
     case measure => simp [intOf]; omega
    | true =>
     obtain ⟨E, HE⟩ : ∃ E, Hid (E = askE xs nm k (blurK xs k K)) := ⟨_, rfl⟩
     by_cases hE0 : E = 0
     ·subst hE0
      have HN : Hid (runK xs nm (k + 1) = .ok (leaveK (nth xs k) k (blurK xs k K))) := by show _ = _; rw [runK, HRN.out]; simp only [stepK]; rw [HR.out, if_neg (by simp), <- HE.out, if_neg (by simp)]
      go_wp2_with (first
       | (go_at_call 23; go_must (refine (lblur_any HQK.out HT.out HLL.out hlt HMK.out).mono ?_); rintro e w6 ⟨rfl, hq6⟩; go_must (have HQ6 : Hid (Inq w3 w6 qb kb nm (.slice la ls.length lcap) cb co ccap xs ls (blurK xs k K)) := (by have := hq6; rw [HLL.out] at this ⊢; exact this); have HM6 := keepJ (made_blurK (xs := xs) (p := k) HMK.out); clear hq6))
       | (go_at_call 24; go_must (refine (lask_any HQ6.out HT.out hlt HM6.out HE).mono ?_); rintro e w7 ⟨rfl, hb7⟩; go_must (have HQ7 := keepJ (HQ6.out.below hb7); clear hb7))
       | (go_at_call 25; go_must (refine (lleave_any HQ7.out HT.out hlt HM6.out HE.out.symm).mono ?_); rintro e w8 ⟨rfl, hq8⟩; go_must (have HQ8 := keepJ hq8; clear hq8)))
      go_roundw
      case rel => exact ⟨k + 1, by omega, by go_num, _, HN.out, HQ8.out, made_leaveK (HT.out.right hlt) HM6.out HE.out.symm⟩
      case measure => simp [intOf]; omega
     ·have HN : Hid (runK xs nm xs.length = .error (k, E)) := run_err (p := k + 1) (by rw [runK, HRN.out]; simp only [stepK]; rw [HR.out, if_neg (by simp), <- HE.out, if_pos hE0]) _ (by omega)
      go_wp2_with (first
       | (go_at_call 23; go_must (refine (lblur_any HQK.out HT.out HLL.out hlt HMK.out).mono ?_); rintro e w6 ⟨rfl, hq6⟩; go_must (have HQ6 : Hid (Inq w3 w6 qb kb nm (.slice la ls.length lcap) cb co ccap xs ls (blurK xs k K)) := (by have := hq6; rw [HLL.out] at this ⊢; exact this); have HM6 := keepJ (made_blurK (xs := xs) (p := k) HMK.out); clear hq6))
       | (go_at_call 24; go_must (refine (lask_any HQ6.out HT.out hlt HM6.out HE).mono ?_); rintro e w7 ⟨rfl, hb7⟩; go_must (have HQ7 := keepJ (HQ6.out.below hb7); clear hb7)))
      go_ret3
      exact .inl ⟨k, E, HN.out, hE0, hlt, rfl, HB3.out.trans (HQ7.out.b0.mono HB3.out.size)⟩
   ·obtain rfl : k = xs.length := by omega
    clear hrun hq hM HI
    go_wp2
    go_ret3
    exact .inr ⟨K, kb, HRN.out, rfl, HQK.out.k, Nat.le_trans HB3.out.size HQK.out.hk, HQK.out.len, HMK.out, HB3.out.trans (HQK.out.b0.mono HB3.out.size)⟩
theorem goes_jump {i : In} (hr : i.right = true) (ho : 15 <= i.op /\ i.op <= 19) : 1 <= i.far /\ i.leads = true := by
 rcases goes_parts i with h | h | h | h
 ·rw [hr] at h; cases h.1
 ·exact ⟨by omega, h.2.2.2.2.1⟩
 ·omega
 ·omega
theorem no_enter {xs : List In} (hT : Taken xs) {k : Nat} (hk : k < xs.length) (hl : (nth xs k).leads = true) {l : Lp} (hm : l ∈ loopsL xs) {x : Int} (hx : x = k + (nth xs k).far) (h1 : l.h < x) (h2 : x <= l.t) : l.h <= k /\ (k : Int) <= l.t := by
 have h := hT.intr k hk
 unfold intrB at h
 rw [hl, Bool.true_and, List.any_eq_false] at h
 have h3 := h l hm
 rw [enters_iff] at h3
 by_cases hc : l.h <= k /\ (k : Int) <= l.t
 ·exact hc
 ·exact absurd ⟨hc, by omega, by omega⟩ h3
theorem kn_set_ne {K : Kn} {p x : Nat} {y : Bool × St} (h : x ≠ p) : (K.set p y).getD x kn0 = K.getD x kn0 := by
 simp [List.getD, List.getElem?_set, h, Ne.symm h]
theorem arr_ne {K : Kn} {p x : Nat} {r : Bool} {s : St} (h : x ≠ p) : (arrK K p r s).getD x kn0 = K.getD x kn0 := by
 unfold arrK
 split
 ·rfl
 split
 ·exact kn_set_ne h
 ·exact kn_set_ne h
theorem kn_set_out {K : Kn} {p x : Nat} {y : Bool × St} (h : ¬ p < K.length) : (K.set p y).getD x kn0 = K.getD x kn0 := by
 rw [List.set_eq_of_length_le (by omega)]
theorem arr_keeps {K : Kn} {p x : Nat} {r : Bool} {s : St} (h : (K.getD x kn0).1 = true) : ((arrK K p r s).getD x kn0).1 = true := by
 by_cases hx : x = p
 ·subst hx
  unfold arrK
  split
  ·exact h
  rename_i hr
  by_cases hl : x < K.length
  ·split
   ·rename_i h2; rw [h] at h2; cases h2
   ·rw [kn_set hl]; exact h
  ·split
   ·rw [kn_set_out hl]; exact h
   ·rw [kn_set_out hl]; exact h
 ·rw [arr_ne hx]; exact h
theorem arr_from {K : Kn} {p x : Nat} {r : Bool} {s : St} (h : ((arrK K p r s).getD x kn0).1 = true) : (K.getD x kn0).1 = true ∨ x = p := by
 by_cases hx : x = p
 ·exact .inr hx
 ·rw [arr_ne hx] at h; exact .inl h
theorem blur_at {xs : List In} {p x : Nat} {K : Kn} : ((blurK xs p K).getD x kn0).1 = (K.getD x kn0).1 := by
 unfold blurK
 by_cases hx : x = p
 ·subst hx
  by_cases hl : x < K.length
  ·rw [kn_set hl]
  ·rw [kn_set_out hl]
 ·rw [kn_set_ne hx]
theorem blur_ne {xs : List In} {p x : Nat} {K : Kn} (h : x ≠ p) : (blurK xs p K).getD x kn0 = K.getD x kn0 := kn_set_ne h
theorem leave_low {xs : List In} {p x : Nat} {K : Kn} (hr : (nth xs p).right = true) (hx : x <= p) : (leaveK (nth xs p) p K).getD x kn0 = K.getD x kn0 := by
 have hg := goes_parts (nth xs p)
 unfold leaveK
 split
 ·rfl
 rename_i c22
 split
 ·rename_i c15
  refine arr_ne ?_
  have hf := (goes_jump hr (by omega)).1
  omega
 rename_i c15
 split
 ·rename_i c16
  have hf := (goes_jump hr (by omega)).1
  rw [arr_ne (by omega), arr_ne (by omega)]
 ·exact arr_ne (by omega)
theorem leave_keeps {i : In} {p x : Nat} {K : Kn} (h : (K.getD x kn0).1 = true) : ((leaveK i p K).getD x kn0).1 = true := by
 unfold leaveK
 split
 ·exact h
 split
 ·exact arr_keeps h
 split
 ·exact arr_keeps (arr_keeps h)
 ·exact arr_keeps h
theorem leave_from {xs : List In} {p x : Nat} {K : Kn} (hr : (nth xs p).right = true) (h : ((leaveK (nth xs p) p K).getD x kn0).1 = true) : (K.getD x kn0).1 = true ∨ x = p + 1 ∨ ((nth xs p).leads = true /\ (x : Int) = p + (nth xs p).far) := by
 have hg := goes_parts (nth xs p)
 unfold leaveK at h
 split at h
 ·exact .inl h
 split at h
 ·rename_i c15
  rcases arr_from h with h | h
  ·exact .inl h
  ·have hf := goes_jump hr (by omega)
   exact .inr (.inr ⟨hf.2, by omega⟩)
 split at h
 ·rename_i c16
  have hf := goes_jump hr (by omega)
  rcases arr_from h with h | h
  ·rcases arr_from h with h | h
   ·exact .inl h
   ·exact .inr (.inl h)
  ·exact .inr (.inr ⟨hf.2, by omega⟩)
 ·rcases arr_from h with h | h
  ·exact .inl h
  ·exact .inr (.inl h)
theorem run_step {xs : List In} {nm n : Nat} {K : Kn} (h : runK xs nm (n + 1) = .ok K) : ∃ K0, runK xs nm n = .ok K0 /\ stepK xs nm n K0 = .ok K := by
 rw [runK] at h
 cases h0 : runK xs nm n with
 | error e => rw [h0] at h; cases h
 | ok K0 =>
  rw [h0] at h
  simp only at h
  cases h1 : stepK xs nm n K0 with
  | error e => rw [h1] at h; cases h
  | ok K1 => rw [h1] at h; simp only at h; injection h with h; subst h; exact ⟨K0, rfl, h1⟩
theorem step_cases {xs : List In} {nm p : Nat} {K K' : Kn} (h : stepK xs nm p K = .ok K') : ((K.getD p kn0).1 = false /\ K' = K) ∨ ((K.getD p kn0).1 = true /\ askE xs nm p (blurK xs p K) = 0 /\ K' = leaveK (nth xs p) p (blurK xs p K)) := by
 unfold stepK at h
 split at h
 ·rename_i h1; injection h with h; exact .inl ⟨h1, h.symm⟩
 ·rename_i h1
  split at h
  ·cases h
  ·rename_i h2; injection h with h; exact .inr ⟨by simpa using h1, by simpa using h2, h.symm⟩
theorem run_heads {xs : List In} {nm : Nat} (hT : Taken xs) : ∀ {n : Nat} {K : Kn}, n <= xs.length -> runK xs nm n = .ok K -> (K.getD 0 kn0).1 = true /\ ∀ l ∈ loopsL xs, ∀ x : Nat, l.h < x -> (x : Int) <= l.t -> (K.getD x kn0).1 = true -> (K.getD l.h.toNat kn0).1 = true := by
 intro n
 induction n with
 | zero =>
  intro K _ h
  rw [runK] at h
  injection h with h
  subst h
  have hp := hT.pos
  refine ⟨?_, fun l hl x hx ht hk => ?_⟩
  ·unfold arrK
   rw [if_neg (by simp), if_pos (by simp [List.getD, List.getElem?_replicate, hp]; rfl), kn_set (by simp; exact hp)]
  ·rcases arr_from hk with hk | hk
   ·exfalso
    rw [show (List.replicate xs.length kn0).getD x kn0 = kn0 by simp [List.getD, List.getElem?_replicate]; split <;> rfl] at hk
    cases hk
   ·have := (hT.loops l hl).1
    omega
 | succ n ih =>
  intro K hn h
  obtain ⟨K0, h0, h1⟩ := run_step h
  obtain ⟨i0, i1⟩ := ih (by omega) h0
  have hr := hT.right (show n < xs.length by omega)
  rcases step_cases h1 with ⟨_, rfl⟩ | ⟨hn1, _, rfl⟩
  ·exact ⟨i0, i1⟩
  ·refine ⟨leave_keeps (by rw [blur_at]; exact i0), fun l hl x hx ht hk => leave_keeps (by
    rw [blur_at]
    have hlp := hT.loops l hl
    have hin : (K0.getD x kn0).1 = true ∨ x = n + 1 ∨ ((nth xs n).leads = true /\ (x : Int) = n + (nth xs n).far) := by
     rcases leave_from hr hk with h | h
     ·rw [blur_at] at h; exact .inl h
     ·exact .inr h
    rcases hin with h | h | h
    ·exact i1 l hl x hx ht h
    ·by_cases hnh : (n : Int) = l.h
     ·rw [<- hnh]; simpa using hn1
     ·exact i1 l hl n (by omega) (by omega) hn1
    ·have hin := no_enter hT (by omega) h.1 hl h.2 hx ht
     by_cases hnh : (n : Int) = l.h
     ·rw [<- hnh]; simpa using hn1
     ·exact i1 l hl n (by omega) hin.2 hn1)⟩
def inqR (ms : List Int) (xs : List In) : Except (Int × Int) Kn :=
 if mapsJ ms = false then .error (0, 2) else if errL xs ≠ 0 then .error ((checkL xs).1, errL xs)
 else match runK xs ms.length xs.length with
  | .error e => .error (e.1, e.2)
  | .ok K => .ok K
def judgeR (ms : List Int) (xs : List In) : Int × Int := match inqR ms xs with | .error e => e | .ok _ => (0, 0)
theorem first_lt {p : Nat -> Bool} {n k : Nat} (h : first p n = some k) : k < n := by
 unfold first at h
 exact List.mem_range.1 (List.mem_of_find?_eq_some h)
theorem crossF_mem : ∀ (r prev : List Lp) (t : Int), crossF prev r = some t -> ∃ l ∈ r, l.t = t
 | [], prev, t, h => by simp [crossF] at h
 | x :: r, prev, t, h => by
  rw [crossF] at h
  split at h
  ·injection h with h; exact ⟨x, by simp, h⟩
  ·obtain ⟨l, hl, e⟩ := crossF_mem r _ t h; exact ⟨l, by simp [hl], e⟩
theorem check_place (xs : List In) : 0 <= (checkL xs).1 /\ ((checkL xs).1 = 0 ∨ (checkL xs).1 < xs.length) := by
 unfold checkL
 split
 ·exact ⟨by decide, .inl rfl⟩
 split
 ·exact ⟨by decide, .inl rfl⟩
 split
 ·rename_i k hk
  have := first_lt hk
  exact ⟨by simp, .inr (by simp; omega)⟩
 split
 ·rename_i t ht
  obtain ⟨l, hl, rfl⟩ := crossF_mem _ _ _ ht
  obtain ⟨k, hk, _, rfl⟩ := loopsU_mem.1 hl
  exact ⟨by simp [lpAt], .inr (by simp [lpAt]; omega)⟩
 split
 ·rename_i k hk
  have := first_lt hk
  exact ⟨by simp, .inr (by simp; omega)⟩
 split
 ·exact ⟨by decide, .inl rfl⟩
 ·exact ⟨by decide, .inl rfl⟩
set_option maxHeartbeats 800000 in
theorem linq_maps (vm vc : Value) (ms : List Int) (w : World) (hm : Sees .i64 w vm ms) (hmf : Hid (mapsJ ms = false)) :
  Calls Tryz.prog 13 #[.agg #[vm, vc]] w fun e w' => e = .returned (.tuple #[.slice none 0 0, .int .i64 0, .int .i64 2]) /\ Below w.heap.size w w' := by
 have HM := keepJ hm
 obtain ⟨ma, mcap, rfl⟩ : ∃ a c, vm = .slice a ms.length c := by obtain ⟨a, c, h, _⟩ := hm; exact ⟨a, c, h⟩
 go_enter Tryz.func13, Tryz.ntmps13
 go_wp2_with (go_at_call 19; go_must (refine (lmapsFit_any _ ms _ (HM.out.below ((Below.refl _ _).alloc (Nat.le_refl _) _) (Nat.le_refl _)) hmf).mono ?_); rintro e w' ⟨rfl, rfl⟩)
 go_ret3
 exact ⟨rfl, by go_grown⟩
set_option maxHeartbeats 800000 in
theorem linq_flow (vm : Value) (ms : List Int) (vc : Value) (xs : List In) (w : World) (hm : Sees .i64 w vm ms) (hx : SeesI w vc xs) (hmf : Hid (mapsJ ms = true)) {P E : Int} (hP : Hid (P = (checkL xs).1)) (hE : Hid (E = errL xs)) (hE0 : E ≠ 0) :
  Calls Tryz.prog 13 #[.agg #[vm, vc]] w fun e w' => e = .returned (.tuple #[.slice none 0 0, .int .i64 P, .int .i64 E]) /\ Below w.heap.size w w' := by
 have HM := keepJ hm
 have HX := keepJ hx
 obtain ⟨ma, mcap, rfl⟩ : ∃ a c, vm = .slice a ms.length c := by obtain ⟨a, c, h, _⟩ := hm; exact ⟨a, c, h⟩
 obtain ⟨ca, ccap, rfl⟩ : ∃ a c, vc = .slice a xs.length c := by obtain ⟨a, c, h, _⟩ := hx; exact ⟨a, c, h⟩
 have hE1 : ¬ E = 0 := hE0
 clear hm hx hE0
 go_enter Tryz.func13, Tryz.ntmps13
 go_wp2_with (first
  | (go_at_call 19; go_must (refine (lmapsFit_any _ ms _ (HM.out.below ((Below.refl _ _).alloc (Nat.le_refl _) _) (Nat.le_refl _)) hmf).mono ?_); rintro e w' ⟨rfl, rfl⟩)
  | (go_at_call 20; go_must (refine (check_as (HX.out.below ((Below.refl _ _).alloc (Nat.le_refl _) _)) hP hE).mono ?_); rintro e w2 ⟨rfl, hb2⟩; go_must (have hB2 := box_below hb2; clear hb2)))
 go_ret3
 exact ⟨rfl, hB2⟩
theorem linquire_any (vm : Value) (ms : List Int) (vc : Value) (xs : List In) (w : World) (hm : Sees .i64 w vm ms) (hx : SeesI w vc xs) :
  Calls Tryz.prog 13 #[.agg #[vm, vc]] w fun e w' =>
   (∃ P E : Int, inqR ms xs = .error (P, E) /\ E ≠ 0 /\ (0 <= P /\ (P = 0 ∨ P < xs.length)) /\ e = .returned (.tuple #[.slice none 0 0, .int .i64 P, .int .i64 E]) /\ Below w.heap.size w w') ∨
   (∃ (K : Kn) (kb : Nat), inqR ms xs = .ok K /\ Taken xs /\ mapsJ ms = true /\ runK xs ms.length xs.length = .ok K /\ e = .returned (.tuple #[.slice (some ⟨kb, 0, none⟩) xs.length xs.length, .int .i64 0, .int .i64 0]) /\ Hp w' kb 62 (flatK K) /\ w.heap.size <= kb /\ K.length = xs.length /\ MadeK ms.length K /\ Below w.heap.size w w') := by
 unfold inqR
 cases hmf : mapsJ ms with
 | false =>
  refine (linq_maps vm vc ms w hm hmf).mono ?_
  rintro e w' ⟨rfl, hb⟩
  exact .inl ⟨0, 2, by simp, by decide, ⟨by decide, .inl rfl⟩, rfl, hb⟩
 | true =>
  by_cases hE : errL xs = 0
  ·have hT : Taken xs := check_ok.1 hE
   obtain ⟨a, cap, hv, h1, h2, h3, h4⟩ := id hx
   obtain ⟨b, off, rfl, hlt, hat⟩ := h4 (fun e => by have := hT.pos; rw [e] at this; simp at this)
   subst hv
   refine (linq_run vm ms b off cap xs w hm hx hmf hE.symm).mono ?_
   rintro e w' (⟨p, E, hr, hE0, hp, rfl, hb⟩ | ⟨K, kb, hr, rfl, hk, hkb, hl, hM, hb⟩)
   ·refine .inl ⟨p, E, ?_, hE0, ⟨by omega, .inr (by omega)⟩, rfl, hb⟩
    rw [if_neg (by simp), if_neg (by simp [hE]), hr]
   ·refine .inr ⟨K, kb, ?_, hT, rfl, hr, rfl, hk, hkb, hl, hM, hb⟩
    rw [if_neg (by simp), if_neg (by simp [hE]), hr]
  ·refine (linq_flow vm ms vc xs w hm hx hmf rfl rfl hE).mono ?_
   rintro e w' ⟨rfl, hb⟩
   exact .inl ⟨(checkL xs).1, errL xs, by rw [if_neg (by simp), if_pos hE], hE, check_place xs, rfl, hb⟩
set_option maxHeartbeats 800000 in
theorem ljudge_any (vm : Value) (ms : List Int) (vc : Value) (xs : List In) (w : World) (hm : Sees .i64 w vm ms) (hx : SeesI w vc xs) :
  Calls Tryz.prog 7 #[.agg #[vm, vc]] w fun e w' => ∃ P E : Int, judgeR ms xs = (P, E) /\ (E = 0 ↔ ∃ K, inqR ms xs = .ok K) /\ (0 <= P /\ (P = 0 ∨ P < xs.length)) /\ e = .returned (.tuple #[.int .i64 P, .int .i64 E]) /\ Below w.heap.size w w' := by
 have HM := keepJ hm
 have HX := keepJ hx
 obtain ⟨ma, mcap, rfl⟩ : ∃ a c, vm = .slice a ms.length c := by obtain ⟨a, c, h, _⟩ := hm; exact ⟨a, c, h⟩
 obtain ⟨ca, ccap, rfl⟩ : ∃ a c, vc = .slice a xs.length c := by obtain ⟨a, c, h, _⟩ := hx; exact ⟨a, c, h⟩
 clear hm hx
 go_enter Tryz.func7, Tryz.ntmps7
 go_wp2_with (go_at_call 13; go_must (refine (linquire_any _ ms _ xs _ (HM.out.below ((Below.refl _ _).alloc (Nat.le_refl _) _) (Nat.le_refl _)) (HX.out.below ((Below.refl _ _).alloc (Nat.le_refl _) _))).mono ?_); rintro e w1 (⟨P, E, hi, hE0, hP, rfl, hb⟩ | ⟨K, kb, hi, hT, hmf, hr, rfl, hk, hkb, hl, hM, hb⟩) <;> (have HB := keepJ (box_below hb); have HI := keepJ hi; clear hb hi))
 ·go_ret2
  exact ⟨P, E, by unfold judgeR; rw [HI.out], ⟨fun h => absurd h hE0, fun ⟨K, h⟩ => by rw [HI.out] at h; cases h⟩, hP, rfl, HB.out⟩
 ·go_ret2
  exact ⟨0, 0, by unfold judgeR; rw [HI.out], ⟨fun _ => ⟨K, HI.out⟩, fun _ => rfl⟩, ⟨by decide, .inl rfl⟩, rfl, HB.out⟩
def nilV : Value := .slice none 0 0
def blockOf : Value -> Nat | .slice (some a) _ _ => a.block | _ => 0
def RowOf (w : World) (tb : Nat) (v : Value) (p : Bool × St) : Prop := (p.1 = false -> v = nilV) /\ (p.1 = true -> (∃ base, w.ownsRow base 46 4 v p.2.length (flatT p.2)) /\ p.2.length = 8 /\ tb < blockOf v /\ blockOf v < w.heap.size)
structure Rows9 (w : World) (tb : Nat) (K : Kn) (k : Nat) (vs : List Value) : Prop where
 len : vs.length = K.length
 cells : Hp w tb 40 vs
 row : ∀ j, j < k -> RowOf w tb (vs.getD j nilV) (K.getD j kn0)
 ord : ∀ i j, i < j -> j < k -> (K.getD i kn0).1 = true -> (K.getD j kn0).1 = true -> blockOf (vs.getD i nilV) < blockOf (vs.getD j nilV)
 rest : ∀ j, k <= j -> vs.getD j nilV = nilV
theorem own_block {w : World} {base : Nat} {e : TypeId} {z : Nat} {v : Value} {n : Nat} {xs : List Value} (h : w.ownsRow base e z v n xs) (hn : 0 < n) : ∃ g cap, v = .slice (some ⟨g, 0, none⟩) n cap /\ base <= g /\ g < w.heap.size /\ n <= cap := by
 rcases h with ⟨h1, ⟨rfl, rfl⟩ | ⟨g, cap, cur, rfl, hb, hh, h3, h4, _⟩⟩
 ·omega
 ·exact ⟨g, cap, rfl, hb, (Array.getElem?_eq_some_iff.1 hh).1, h3⟩
theorem RowOf.grown {w w' : World} {tb : Nat} {v : Value} {p : Bool × St} (h : RowOf w tb v p) {b : Nat} (hg : w.grownBy w' (some b)) (hb : b = tb ∨ w.heap.size <= b) : RowOf w' tb v p := by
 refine ⟨h.1, fun hp => ?_⟩
 obtain ⟨⟨base, ho⟩, h8, h1, h2⟩ := h.2 hp
 refine ⟨⟨base, ho.kept hg ?_⟩, h8, h1, Nat.lt_of_lt_of_le h2 hg.size⟩
 obtain ⟨g, cap, rfl, _⟩ := own_block ho (by omega)
 simp only [blockOf] at h1 h2
 refine .inr fun e => ?_
 simp [Value.ownBlock] at e
 omega
theorem Rows9.grown {w w' : World} {tb : Nat} {K : Kn} {k : Nat} {vs : List Value} (h : Rows9 w tb K k vs) (hb : Below w.heap.size w w') : Rows9 w' tb K k vs :=
 ⟨h.len, h.cells.below hb h.cells.lt, fun j hj => (h.row j hj).grown (grown_of_below hb (some w.heap.size)) (.inr (Nat.le_refl _)), h.ord, h.rest⟩
theorem getD_set {vs : List Value} {k j : Nat} {u : Value} (hk : k < vs.length) : (vs.set k u).getD j nilV = if j = k then u else vs.getD j nilV := by
 by_cases h : j = k
 ·subst h; simp [List.getD, List.getElem?_set, hk]
 ·simp [List.getD, List.getElem?_set, h, Ne.symm h]
theorem Rows9.skip {w : World} {tb : Nat} {K : Kn} {k : Nat} {vs : List Value} (h : Rows9 w tb K k vs) (hr : (K.getD k kn0).1 = false) : Rows9 w tb K (k + 1) vs := by
 refine ⟨h.len, h.cells, fun j hj => ?_, fun i j hij hj hi hj1 => ?_, fun j hj => h.rest j (by omega)⟩
 ·by_cases e : j = k
  ·subst e; exact ⟨fun _ => h.rest j (Nat.le_refl _), fun h' => by rw [hr] at h'; cases h'⟩
  ·exact h.row j (by omega)
 ·by_cases e : j = k
  ·subst e; rw [hr] at hj1; cases hj1
  ·exact h.ord i j hij (by omega) hi hj1
theorem Rows9.put {w : World} {tb : Nat} {K : Kn} {k : Nat} {vs : List Value} (h : Rows9 w tb K k vs) (hk : k < K.length) {u : Value} {s : St} (hs : K.getD k kn0 = (true, s)) (h8 : s.length = 8) {base : Nat} (ho : w.ownsRow base 46 4 u s.length (flatT s)) (hb : tb < base) (hbe : ∀ j, j < k -> (K.getD j kn0).1 = true -> blockOf (vs.getD j nilV) < base) : Rows9 (w.setCell ⟨tb, k, none⟩ u) tb K (k + 1) (vs.set k u) := by
 obtain ⟨g, cap, rfl, hbg, hgz, _⟩ := own_block ho (by omega)
 have hg := grown_set w tb k (.slice (some ⟨g, 0, none⟩) s.length cap)
 have hkl : k < vs.length := by rw [h.len]; exact hk
 have hrow : RowOf w tb (.slice (some ⟨g, 0, none⟩) s.length cap) (K.getD k kn0) := by
  rw [hs]
  refine ⟨fun h' => (by cases h'), fun _ => ⟨⟨base, ho⟩, h8, ?_, ?_⟩⟩
  ·show tb < g; omega
  ·show g < _; omega
 refine ⟨by rw [List.length_set]; exact h.len, h.cells.set k _, fun j hj => ?_, fun i j hij hj hi hj1 => ?_, fun j hj => ?_⟩
 ·rw [getD_set hkl]
  by_cases e : j = k
  ·subst e; rw [if_pos rfl]; exact hrow.grown hg (.inl rfl)
  ·rw [if_neg e]; exact (h.row j (by omega)).grown hg (.inl rfl)
 ·rw [getD_set hkl, getD_set hkl]
  rw [if_neg (show ¬ i = k by omega)]
  by_cases e : j = k
  ·subst e
   rw [if_pos rfl]
   have := hbe i hij hi
   show _ < g
   omega
  ·rw [if_neg e]; exact h.ord i j hij (by omega) hi hj1
 ·rw [getD_set hkl, if_neg (by omega)]; exact h.rest j (by omega)
set_option maxHeartbeats 800000 in
theorem lclone_any (b off n cap : Nat) (xs : List Ty) (w : World) (hs : SeesT w (.slice (some ⟨b, off, none⟩) n cap) xs) (hl : xs.length <= 1048576) : Calls Tryz.prog 18 #[.slice (some ⟨b, off, none⟩) n cap] w fun e w' => ∃ u, e = .returned u /\ w'.ownsRow w.heap.size 46 4 u xs.length (flatT xs) /\ Below w.heap.size w w' := by
 obtain ⟨i0, hi, hz0, hz1, hz2⟩ := infoT_parts
 have HS := keepJ hs
 have heq : ∀ wx : World, (Go.binOp .eql 40 (.slice (some ⟨b, off, none⟩) n cap) (.slice none 0 0)).run Tryz.prog wx = .ok (.bool false) wx := fun _ => by kernel_rfl
 clear hs
 go_enter Tryz.func18, Tryz.ntmps18
 go_wp2_with (at_builtin; go_must (refine wpList_append_seesT rfl (.tmp 5) (.tmp 6) 40 rfl w.heap.size 46 i0 (tyV Ty.nil) Tryz.underlying40 hi hz0 hz1 hz2 rfl (.slice (some ⟨w.heap.size, 0, none⟩) 0 0) [] rfl (ownT_empty w _) _ xs rfl (HS.out.below ((Below.refl _ _).alloc (Nat.le_refl _) _)) (by unfold maxLen; simp; omega) (by simp; omega) (by simp) ?_); intro v' w1 hown1 hg1)
 go_ret
 refine ⟨_, rfl, by simpa using hown1, ?_⟩
 exact ((Below.refl w.heap.size w).alloc (Nat.le_refl _) _).grown hg1 (by simp) (fun k hk => (by have h : w.heap.size = k := (by simpa [Value.ownBlock] using hk); omega))
theorem run_sliceR (nb : Nat) (w : World) : (Instr.sliceAt 60 (.pointer (some ⟨nb, 1, none⟩)) none none none).run Tryz.prog w = .ok (.slice (some ⟨nb, 1, none⟩) 8 8) w := by kernel_rfl
theorem sees_regs {w : World} {nb : Nat} {r : Bool} {s : St} (hx : StAt w nb 0 r s) (h8 : s.length = 8) (hz : nb < w.heap.size) : SeesT w (.slice (some ⟨nb, 1, none⟩) 8 8) s := by
 refine ⟨some ⟨nb, 1, none⟩, 8, by rw [h8], by omega, by decide, fun e => (by cases e), fun _ => ⟨nb, 1, rfl, hz, fun k hk => ?_⟩⟩
 have := hx.typ h8 (k := k) (by omega)
 rw [Nat.zero_add] at this
 exact this
theorem run_makeR (n : Nat) (hn : n <= 64) (w : World) : (Instr.makeSlice 36 (.int .i64 n) (.int .i64 n)).run Tryz.prog w = .ok (.slice (some ⟨w.heap.size, 0, none⟩) n n) (w.alloc (.cells (List.replicate n nilV).toArray 40)) := by
 have hi : ∃ i, Tryz.prog.info? 40 = some i /\ i.size = 1 /\ i.zero = some nilV /\ i.bytes <= 1000000 := ⟨_, rfl, rfl, rfl, by decide⟩
 obtain ⟨i, h1, h2, h3, h4⟩ := hi
 have := run_make (P := Tryz.prog) w 36 40 i _ Tryz.underlying36 h1 h3 .i64 .i64 n n (by omega) (Int.le_refl _) (by have : (i.bytes : Int) * n <= 1000000 * 64 := Int.mul_le_mul (by omega) (by omega) (by omega) (by omega); omega) (by omega)
 rw [h2] at this
 simp only [Int.toNat_natCast, Nat.mul_one] at this
 rw [this]
 congr 3
 apply Array.ext_getElem?
 intro j
 by_cases hj : j < n
 ·rw [show (List.replicate n nilV).toArray[j]? = (List.replicate n nilV)[j]? from List.getElem?_toArray, List.getElem?_replicate, if_pos hj]
  simp only [madeCells, Array.getElem?_map]
  rw [Array.getElem?_range]
  simp [hj, nilV, Value.cells, Nat.mod_one]
 ·rw [Array.getElem?_eq_none (by rw [size_madeCells]; omega), Array.getElem?_eq_none (by simp; omega)]
theorem getD_some {vs : List Value} {k : Nat} (hk : k < vs.length) : vs[k]? = some (vs.getD k nilV) := by simp [List.getD, List.getElem?_eq_getElem hk]
set_option maxHeartbeats 3200000 in
theorem ltypes_any (vm : Value) (ms : List Int) (vc : Value) (xs : List In) (w : World) (hm : Sees .i64 w vm ms) (hx : SeesI w vc xs) :
  Calls Tryz.prog 10 #[.agg #[vm, vc]] w fun e w' =>
   (∃ P E : Int, inqR ms xs = .error (P, E) /\ E ≠ 0 /\ e = .returned (.tuple #[.slice none 0 0, .int .i64 E]) /\ Below w.heap.size w w') ∨
   (∃ (K : Kn) (tb : Nat) (vs : List Value), inqR ms xs = .ok K /\ Taken xs /\ mapsJ ms = true /\ runK xs ms.length xs.length = .ok K /\ K.length = xs.length /\ MadeK ms.length K /\ e = .returned (.tuple #[.slice (some ⟨tb, 0, none⟩) xs.length xs.length, .int .i64 0]) /\ Rows9 w' tb K xs.length vs /\ w.heap.size <= tb /\ Below w.heap.size w w') := by
 have HM := keepJ hm
 have HX := keepJ hx
 obtain ⟨ma, mcap, rfl⟩ : ∃ a c, vm = .slice a ms.length c := by obtain ⟨a, c, h, _⟩ := hm; exact ⟨a, c, h⟩
 obtain ⟨ca, ccap, rfl⟩ : ∃ a c, vc = .slice a xs.length c := by obtain ⟨a, c, h, _⟩ := hx; exact ⟨a, c, h⟩
 clear hm hx
 obtain ⟨vs0, HV0⟩ : ∃ vs0, Hid (vs0 = List.replicate xs.length nilV) := ⟨_, rfl⟩
 have hmk : ∀ wx : World, xs.length <= 64 -> (Instr.makeSlice 36 (.int .i64 xs.length) (.int .i64 xs.length)).run Tryz.prog wx = .ok (.slice (some ⟨wx.heap.size, 0, none⟩) xs.length xs.length) (wx.alloc (.cells vs0.toArray 40)) := fun wx h => by rw [HV0.out]; exact run_makeR xs.length h wx
 go_enter Tryz.func10, Tryz.ntmps10
 go_wp2_with (first
  | (go_at_call 13; go_must (refine (linquire_any _ ms _ xs _ (HM.out.below ((Below.refl _ _).alloc (Nat.le_refl _) _) (Nat.le_refl _)) (HX.out.below ((Below.refl _ _).alloc (Nat.le_refl _) _))).mono ?_); rintro e w1 (⟨P, E, hi, hE0, hP, rfl, hb⟩ | ⟨K, kb, hi, hT, hmf, hr, rfl, hk, hkb, hl, hMK, hb⟩) <;> (have HB := keepJ (box_below hb); have HI := keepJ hi; clear hb hi) <;> (try (have h64 := hT.top; have HT := keepJ hT; have HK := keepJ hk; have HKB := keepJ hkb; have HL := keepJ hl; have HMK := keepJ hMK; have HMF := keepJ hmf; have HRK := keepJ hr; clear hT hk hkb hl hMK hmf hr))))
 ·go_ret2
  exact .inl ⟨P, E, HI.out, hE0, rfl, HB.out⟩
 ·clear hmk
  obtain ⟨Y, tb, HY, HTB, HKY, HRY, hBY, htb⟩ : ∃ Y tb, Hid (Y = w1.alloc (Obj.cells vs0.toArray 40)) /\ Hid (w1.heap.size = tb) /\ Hid (Hp Y kb 62 (flatK K)) /\ Hid (Rows9 Y tb K 0 vs0) /\ Below w.heap.size w Y /\ (w.heap.size <= tb /\ kb < tb) :=
   ⟨_, _, rfl, rfl, HK.out.alloc _, ⟨by rw [HV0.out, HL.out]; simp, Hp.new w1 vs0 _, fun j hj => by omega, fun i j _ hj => by omega, fun j _ => by rw [HV0.out]; simp [List.getD, List.getElem?_replicate]; split <;> rfl⟩, HB.out.alloc HB.out.size _, HB.out.size, HK.out.lt⟩
  rw [<- HY.out, HTB.out]
  clear HY HTB
  have hx64 : (xs.length : Int) <= 64 := by omega
  go_loopw [24] (fun i wr => ∃ k : Nat, k <= xs.length /\ i = .int .i64 k /\ Hid (∃ vs, Rows9 wr tb K k vs /\ Hp wr kb 62 (flatK K) /\ Below w.heap.size w wr)) (fun i _ => xs.length - (intOf i).toNat)
  case atStart => exact ⟨0, by omega, rfl, vs0, HRY.out, HKY.out, hBY⟩
  case round =>
   obtain ⟨k, hk, rfl, HI2⟩ := hrel
   by_cases hlt : k < xs.length
   ·obtain ⟨vs, hR, hKr, hBr⟩ := HI2.out
    have HR := keepJ hR
    have HKr := keepJ hKr
    obtain ⟨r, s, HS⟩ : ∃ r s, Hid (K.getD k kn0 = (r, s)) := ⟨_, _, rfl⟩
    have hkK : k < K.length := by rw [HL.out]; exact hlt
    have h8 : s.length = 8 := by have := HMK.out.eight.at k; rw [HS.out] at this; exact this
    have HST := keepJ (show wr.rangeAt kb (k * 33) (stC r s) from hKr.state HMK.out.eight hkK HS.out)
    have HSZ := keepJ (sizeJ (r := r) h8)
    have HSA := keepJ (sizeJA (r := r) h8)
    have HS1 := keepJ (stC_all r s)
    have hkI : (k : Int) < xs.length := by omega
    have hkz := hKr.lt
    have htz := hR.cells.lt
    clear hR hKr HI2
    obtain ⟨Y2, HY2, HB2, HR2, HK2, hB2, hz2, b0⟩ : ∃ Y2, Hid (Y2 = (wr.alloc (Obj.cells #[.bool false, .int .i64 0, .int .u64 0, .int .u64 0, .int .i64 0, .int .i64 0, .int .u64 0, .int .u64 0, .int .i64 0, .int .i64 0, .int .u64 0, .int .u64 0, .int .i64 0, .int .i64 0, .int .u64 0, .int .u64 0, .int .i64 0, .int .i64 0, .int .u64 0, .int .u64 0, .int .i64 0, .int .i64 0, .int .u64 0, .int .u64 0, .int .i64 0, .int .i64 0, .int .u64 0, .int .u64 0, .int .i64 0, .int .i64 0, .int .u64 0, .int .u64 0, .int .i64 0] 62)).setCells wr.heap.size 0 (stC r s).toArray.toList) /\ Hid (Hp Y2 wr.heap.size 62 (stC r s)) /\ Hid (Rows9 Y2 tb K k vs) /\ Hid (Hp Y2 kb 62 (flatK K)) /\ Below wr.heap.size wr Y2 /\ wr.heap.size < Y2.heap.size /\ Y2.cell? ⟨wr.heap.size, 0, none⟩ = some (.bool r) := by
     have hn : Hp (wr.alloc (Obj.cells #[.bool false, .int .i64 0, .int .u64 0, .int .u64 0, .int .i64 0, .int .i64 0, .int .u64 0, .int .u64 0, .int .i64 0, .int .i64 0, .int .u64 0, .int .u64 0, .int .i64 0, .int .i64 0, .int .u64 0, .int .u64 0, .int .i64 0, .int .i64 0, .int .u64 0, .int .u64 0, .int .i64 0, .int .i64 0, .int .u64 0, .int .u64 0, .int .i64 0, .int .i64 0, .int .u64 0, .int .u64 0, .int .i64 0, .int .i64 0, .int .u64 0, .int .u64 0, .int .i64 0] 62)) wr.heap.size 62 zeroC := Hp.new wr zeroC _
     have hb := hn.box (r := r) zeroC_len h8
     have hbe : Below wr.heap.size wr ((wr.alloc (Obj.cells #[.bool false, .int .i64 0, .int .u64 0, .int .u64 0, .int .i64 0, .int .i64 0, .int .u64 0, .int .u64 0, .int .i64 0, .int .i64 0, .int .u64 0, .int .u64 0, .int .i64 0, .int .i64 0, .int .u64 0, .int .u64 0, .int .i64 0, .int .i64 0, .int .u64 0, .int .u64 0, .int .i64 0, .int .i64 0, .int .u64 0, .int .u64 0, .int .i64 0, .int .i64 0, .int .u64 0, .int .u64 0, .int .i64 0, .int .i64 0, .int .u64 0, .int .u64 0, .int .i64 0] 62)).setCells wr.heap.size 0 (stC r s)) := ((Below.refl _ _).alloc (Nat.le_refl _) _).trans (grown_to_below (grown_sets _ _ _ _) (Nat.le_refl _) (by simp))
     exact ⟨_, rfl, hb, HR.out.grown hbe, HKr.out.below hbe hkz, hbe, hb.lt, hb.one.cell⟩
    have HTH := keepJ (show (wr.alloc (Obj.cells #[.bool false, .int .i64 0, .int .u64 0, .int .u64 0, .int .i64 0, .int .i64 0, .int .u64 0, .int .u64 0, .int .i64 0, .int .i64 0, .int .u64 0, .int .u64 0, .int .i64 0, .int .i64 0, .int .u64 0, .int .u64 0, .int .i64 0, .int .i64 0, .int .u64 0, .int .u64 0, .int .i64 0, .int .i64 0, .int .u64 0, .int .u64 0, .int .i64 0, .int .i64 0, .int .u64 0, .int .u64 0, .int .i64 0, .int .i64 0, .int .u64 0, .int .u64 0, .int .i64 0] 62)).there wr.heap.size 0 (stC r s).toArray.size from (by rw [stC_size r h8]; exact (Hp.new wr zeroC _).there (by rw [zeroC_len]; omega)))
    cases r with
    | false =>
     go_wp2_with (first
      | ((with_reducible refine wpList_load_mid ?qa 62 (.tmp 27) ?qb kb (k * 33) ?qc (stC false s) _ HST.out Tryz.underlying62 ?qd HSZ.out ?qe); (case qa => rfl); (case qb => rfl); (case qc => rfl); (case qd => rfl))
      | ((with_reducible refine wpList_store_mid ?ra 62 (.tmp 9) (.tmp 28) ?rb wr.heap.size 0 (stC false s).toArray ?rc ?rd HTH.out HSA.out HS1.out ?re); (case ra => rfl); (case rb => rfl); (case rc => rfl); (case rd => rfl); rw [<- HY2.out]))
     go_roundw
     case rel => exact ⟨k + 1, by omega, by go_num, vs, HR2.out.skip (by rw [HS.out]), HK2.out, hBr.trans (hB2.mono hBr.size)⟩
     case measure => simp [intOf]; omega
    | true =>
     have hsl := run_sliceR wr.heap.size
     have htz2 := HR2.out.cells.lt
     have hkz2 := HK2.out.lt
     go_wp2_with (first
      | ((with_reducible refine wpList_load_mid ?qa1 62 (.tmp 27) ?qb1 kb (k * 33) ?qc1 (stC true s) _ HST.out Tryz.underlying62 ?qd1 HSZ.out ?qe1); (case qa1 => rfl); (case qb1 => rfl); (case qc1 => rfl); (case qd1 => rfl))
      | ((with_reducible refine wpList_store_mid ?ra1 62 (.tmp 9) (.tmp 28) ?rb1 wr.heap.size 0 (stC true s).toArray ?rc1 ?rd1 HTH.out HSA.out HS1.out ?re1); (case ra1 => rfl); (case rb1 => rfl); (case rc1 => rfl); (case rd1 => rfl); rw [<- HY2.out])
      | (go_at_call 18; go_must (refine (lclone_any _ _ _ _ s _ (sees_regs HB2.out.one h8 hz2) (by omega)).mono ?_); rintro e w5 ⟨u, rfl, hown, hb5⟩; go_must (obtain ⟨g5, cap5, rfl, hbg5, hgz5, hcap5⟩ := own_block hown (by omega); have HR5 := keepJ (HR2.out.grown hb5); have HK5 := keepJ (HK2.out.below hb5 hkz2); have HB5 := keepJ (hBr.trans ((hB2.trans (hb5.mono (Nat.le_of_lt hz2))).mono hBr.size)); have HOW := keepJ hown; have c5 : w5.cell? ⟨tb, k, none⟩ = some (vs.getD k nilV) := HR5.out.cells.cell (getD_some (by rw [HR5.out.len]; exact hkK)); have f5 := HR5.out.cells.frozen k; clear hown hb5)))
     go_roundw
     case rel =>
      refine ⟨k + 1, by omega, by go_num, _, HR5.out.put hkK HS.out h8 (show w5.ownsRow Y2.heap.size 46 4 (.slice (some ⟨g5, 0, none⟩) 8 cap5) s.length (flatT s) from (by have := HOW.out; rw [h8] at this; rw [h8]; exact this)) htz2 (fun j hj hrj => ?_), HK5.out.far (by omega), below_set HB5.out htb.1⟩
      exact ((HR2.out.row j hj).2 hrj).2.2.2
     case measure => simp [intOf]; omega
   ·obtain rfl : k = xs.length := by omega
    obtain ⟨vs, hR, hKr, hBr⟩ := HI2.out
    have HR := keepJ hR
    clear hR hKr HI2
    go_wp2
    go_ret2
    exact .inr ⟨K, tb, vs, HI.out, HT.out, HMF.out, HRK.out, HL.out, HMK.out, rfl, HR.out, htb.1, hBr⟩
end Go.Proofs.YtkcofelpndlplaaGreat
