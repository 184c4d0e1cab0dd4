/-
  J8More
  J8Own
-/
import Derived.Test.YtkondcjmhlppiaaGreatMW14
import Derived.Test.YtkondcjmhlppiaaGreatMW13
import Derived.Laws.ResultCell
import Derived.Laws.OwnMore
namespace Go.Proofs.YtkondcjmhlppiaaGreat
open Go.RowKit
set_option linter.unusedVariables false
set_option maxRecDepth 100000
def BxT (w : World) (n off : Nat) (t : Ty) : Prop := AtT w n off t /\ w.frozen? ⟨n, off, none⟩ = false /\ w.frozen? ⟨n, off + 1, none⟩ = false /\ w.frozen? ⟨n, off + 2, none⟩ = false /\ w.frozen? ⟨n, off + 3, none⟩ = false
theorem BxT.below {w w' : World} {n off B : Nat} {t : Ty} (h : BxT w n off t) (hb : Below B w w') (hB : n < B) : BxT w' n off t := by
 refine ⟨h.1.below hb hB, ?_⟩
 rw [hb.frozen (p := ⟨n, off, none⟩) hB, hb.frozen (p := ⟨n, off + 1, none⟩) hB, hb.frozen (p := ⟨n, off + 2, none⟩) hB, hb.frozen (p := ⟨n, off + 3, none⟩) hB]
 exact h.2
abbrev setT (w : World) (n off : Nat) (t : Ty) : World := (((w.setCell ⟨n, off, none⟩ (.int .i64 t.k)).setCell ⟨n, off + 1, none⟩ (.int .u64 t.lo)).setCell ⟨n, off + 2, none⟩ (.int .u64 t.hi)).setCell ⟨n, off + 3, none⟩ (.int .i64 t.m)
theorem cell_far {w : World} {n i j : Nat} {v : Value} (h : i ≠ j) : (w.setCell ⟨n, i, none⟩ v).cell? ⟨n, j, none⟩ = w.cell? ⟨n, j, none⟩ := World.cell?_setCell_other _ _ _ _ (fun e => h (by injection e with e1))
theorem cell_same {w : World} {n i : Nat} {u v : Value} (h : w.cell? ⟨n, i, none⟩ = some u) : (w.setCell ⟨n, i, none⟩ v).cell? ⟨n, i, none⟩ = some v := by simp [World.cell?_setCell_same', h]
theorem AtT.set {w : World} {n off : Nat} {t : Ty} (h : AtT w n off t) (t' : Ty) : AtT (setT w n off t') n off t' := by
 obtain ⟨h0, h1, h2, h3⟩ := h
 refine ⟨?_, ?_, ?_, ?_⟩
 ·rw [cell_far (by omega), cell_far (by omega), cell_far (by omega)]; exact cell_same h0
 ·rw [cell_far (by omega), cell_far (by omega)]; exact cell_same ((cell_far (by omega)).trans h1)
 ·rw [cell_far (by omega)]; exact cell_same ((cell_far (by omega)).trans ((cell_far (by omega)).trans h2))
 ·exact cell_same ((cell_far (by omega)).trans ((cell_far (by omega)).trans ((cell_far (by omega)).trans h3)))
theorem BxT.set {w : World} {n off : Nat} {t : Ty} (h : BxT w n off t) (t' : Ty) : BxT (setT w n off t') n off t' :=
 ⟨h.1.set t', by simpa using h.2.1, by simpa using h.2.2.1, by simpa using h.2.2.2.1, by simpa using h.2.2.2.2⟩
theorem below_setT {B : Nat} {w Z : World} {n off : Nat} {t : Ty} (h : Below B w Z) (hn : B <= n) : Below B w (setT Z n off t) := below_set (below_set (below_set (below_set h hn) hn) hn) hn
theorem box_kept {w w2 : World} (h : Below (w.alloc (tyO Ty.nil)).heap.size (w.alloc (tyO Ty.nil)) w2) : Below w.heap.size w w2 /\ w.heap.size < w2.heap.size /\ Hid (BxT w2 w.heap.size 0 Ty.nil) /\
  w2.cell? ⟨w.heap.size, 0, none⟩ = some (.int .i64 0) /\ w2.cell? ⟨w.heap.size, 1, none⟩ = some (.int .u64 0) /\ w2.cell? ⟨w.heap.size, 2, none⟩ = some (.int .u64 0) /\ w2.cell? ⟨w.heap.size, 3, none⟩ = some (.int .i64 0) /\
  w2.frozen? ⟨w.heap.size, 0, none⟩ = false /\ w2.frozen? ⟨w.heap.size, 1, none⟩ = false /\ w2.frozen? ⟨w.heap.size, 2, none⟩ = false /\ w2.frozen? ⟨w.heap.size, 3, none⟩ = false := by
 have hs := h.size
 have hz : w.heap.size < (w.alloc (tyO Ty.nil)).heap.size := by simp
 have hb : BxT (w.alloc (tyO Ty.nil)) w.heap.size 0 Ty.nil := ⟨⟨by go_cell, by go_cell, by go_cell, by go_cell⟩, by go_simp, by go_simp, by go_simp, by go_simp⟩
 have hx := hb.below h hz
 exact ⟨((Below.refl _ _).alloc (Nat.le_refl _) _).trans (h.mono (by simp)), by omega, hx, hx.1.1, hx.1.2.1, hx.1.2.2.1, hx.1.2.2.2, hx.2.1, hx.2.2.1, hx.2.2.2.1, hx.2.2.2.2⟩
theorem box_ret {fn : Func} {p u : Tmp} {w w2 : World} {n B : Nat} {tmps : Array Value} {b : Bool} {t' t : Ty} (hr : fn.results = #[.cell p 112, .tmp u]) (hp : tmps.getD p undef = .pointer (some ⟨n, 0, none⟩)) (hu : tmps.getD u undef = .bool b)
  (hx : BxT w2 n 0 t') (hB : Below B w w2) (hn : B <= n) : bodyPost Tryz.prog fn (fun e w' => e = .returned (.tuple #[tyV t, .bool b]) /\ Below B w w') .ret ⟨tmps, []⟩ (setT w2 n 0 t) := by
 refine bodyPost_ret (v := .tuple #[tyV t, .bool b]) ?_ rfl ⟨rfl, below_setT hB hn⟩
 rw [results_cell_tmp hr, hp, hu]
 simp only [asAddr, Sem.run_pure, Result.andThen]
 rw [run_boxT (hx.1.set t)]
set_option maxHeartbeats 1600000 in
theorem result_any (h : Int) (w : World) : Calls Tryz.prog 104 #[.int .i64 h] w fun e w' => e = .returned (.tuple #[tyV (resL h).1, .bool (resL h).2]) /\ Below w.heap.size w w' := by
 rcases helper_cases h with rfl | rfl | rfl | rfl | rfl | rfl | rfl | c
 ·have HE : Hid (resL 0 = (numT topN, true)) := show resL 0 = (numT topN, true) from rfl
  go_enter Tryz.func104, Tryz.ntmps104
  go_wp2_with (first
  | (go_at_call 82; go_must (refine (lfull_any _).mono ?_); rintro e w1 ⟨rfl, hb1⟩)
  | (go_at_call 89; go_must (refine (number_any _ _ _).mono ?_); rintro e w2 ⟨rfl, hb2⟩; go_must (obtain ⟨hB2, hz, HX, c0, c1, c2, c3, f0, f1, f2, f3⟩ := box_kept (hb1.trans (hb2.mono hb1.size)); clear hb1 hb2)))
  rw [HE.out]
  exact box_ret rfl rfl rfl (t := numT topN) HX.out hB2 (Nat.le_refl _)
 ·have HE : Hid (resL 1 = (numT 1, true)) := show resL 1 = (numT 1, true) from rfl
  go_enter Tryz.func104, Tryz.ntmps104
  go_wp2_with (first
  | (go_at_call 89; go_must (refine (number_any _ _ _).mono ?_); rintro e w2 ⟨rfl, hb2⟩; go_must (obtain ⟨hB2, hz, HX, c0, c1, c2, c3, f0, f1, f2, f3⟩ := box_kept hb2; clear hb2)))
  rw [HE.out]
  exact box_ret rfl rfl rfl (t := numT 1) HX.out hB2 (Nat.le_refl _)
 ·have HE : Hid (resL 2 = (numT 1, true)) := show resL 2 = (numT 1, true) from rfl
  go_enter Tryz.func104, Tryz.ntmps104
  go_wp2_with (first
  | (go_at_call 89; go_must (refine (number_any _ _ _).mono ?_); rintro e w2 ⟨rfl, hb2⟩; go_must (obtain ⟨hB2, hz, HX, c0, c1, c2, c3, f0, f1, f2, f3⟩ := box_kept hb2; clear hb2)))
  rw [HE.out]
  exact box_ret rfl rfl rfl (t := numT 1) HX.out hB2 (Nat.le_refl _)
 ·have HE : Hid (resL 3 = (numT 1, true)) := show resL 3 = (numT 1, true) from rfl
  go_enter Tryz.func104, Tryz.ntmps104
  go_wp2_with (first
  | (go_at_call 89; go_must (refine (number_any _ _ _).mono ?_); rintro e w2 ⟨rfl, hb2⟩; go_must (obtain ⟨hB2, hz, HX, c0, c1, c2, c3, f0, f1, f2, f3⟩ := box_kept hb2; clear hb2)))
  rw [HE.out]
  exact box_ret rfl rfl rfl (t := numT 1) HX.out hB2 (Nat.le_refl _)
 ·have HE : Hid (resL 4 = (numT topN, true)) := show resL 4 = (numT topN, true) from rfl
  go_enter Tryz.func104, Tryz.ntmps104
  go_wp2_with (first
  | (go_at_call 82; go_must (refine (lfull_any _).mono ?_); rintro e w1 ⟨rfl, hb1⟩)
  | (go_at_call 89; go_must (refine (number_any _ _ _).mono ?_); rintro e w2 ⟨rfl, hb2⟩; go_must (obtain ⟨hB2, hz, HX, c0, c1, c2, c3, f0, f1, f2, f3⟩ := box_kept (hb1.trans (hb2.mono hb1.size)); clear hb1 hb2)))
  rw [HE.out]
  exact box_ret rfl rfl rfl (t := numT topN) HX.out hB2 (Nat.le_refl _)
 ·have HE : Hid (resL 5 = (numT topN, true)) := show resL 5 = (numT topN, true) from rfl
  go_enter Tryz.func104, Tryz.ntmps104
  go_wp2_with (first
  | (go_at_call 82; go_must (refine (lfull_any _).mono ?_); rintro e w1 ⟨rfl, hb1⟩)
  | (go_at_call 89; go_must (refine (number_any _ _ _).mono ?_); rintro e w2 ⟨rfl, hb2⟩; go_must (obtain ⟨hB2, hz, HX, c0, c1, c2, c3, f0, f1, f2, f3⟩ := box_kept (hb1.trans (hb2.mono hb1.size)); clear hb1 hb2)))
  rw [HE.out]
  exact box_ret rfl rfl rfl (t := numT topN) HX.out hB2 (Nat.le_refl _)
 ·have HE : Hid (resL 6 = (numT 0, true)) := show resL 6 = (numT 0, true) from rfl
  go_enter Tryz.func104, Tryz.ntmps104
  go_wp2_with (first
  | (go_at_call 83; go_must (refine (lsingle_any _ _).mono ?_); rintro e w1 ⟨rfl, hb1⟩)
  | (go_at_call 89; go_must (refine (number_any _ _ _).mono ?_); rintro e w2 ⟨rfl, hb2⟩; go_must (obtain ⟨hB2, hz, HX, c0, c1, c2, c3, f0, f1, f2, f3⟩ := box_kept (hb1.trans (hb2.mono hb1.size)); clear hb1 hb2)))
  rw [HE.out]
  exact box_ret rfl rfl rfl (t := numT 0) HX.out hB2 (Nat.le_refl _)
 ·have HE : Hid (resL h = (Ty.nil, false)) := res_none c
  obtain ⟨c0, c1, c2, c3, c4, c5, c6⟩ := c
  go_enter Tryz.func104, Tryz.ntmps104
  go_wp2
  rw [HE.out]
  refine bodyPost_ret (v := .tuple #[tyV Ty.nil, .bool false]) ?_ rfl ⟨rfl, by go_grown⟩
  rw [results_cell_tmp rfl]
  simp [asAddr, Result.andThen]
  rw [run_boxT (k := 0) (lo := 0) (hi := 0) (m := 0)]
  ·rfl
  ·refine ⟨?_, ?_, ?_, ?_⟩ <;> go_cell
theorem own_shapeT {w : World} {base size n : Nat} {e : TypeId} {v : Value} {xs : List Value} (h : w.ownsRow base e size v n xs) : ∃ a c, v = .slice a n c := by
 obtain ⟨_, ⟨rfl, rfl⟩ | ⟨g, cap, cur, rfl, _⟩⟩ := h
 ·exact ⟨none, 0, rfl⟩
 ·exact ⟨_, cap, rfl⟩
end Go.Proofs.YtkondcjmhlppiaaGreat
