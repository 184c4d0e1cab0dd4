
/-
 What the project's fits and Check and the document's Check answer. Condition: the arguments read as a list of types.
-/
import Derived.Test.YtkondcjmhlppiaaGreatMW14
import Derived.Deep.RegionHeld3
namespace Go.Proofs.YtkondcjmhlppiaaGreat
open Go.RowKit
set_option linter.unusedVariables false
set_option maxRecDepth 100000

theorem lthere_any (h : Int) (w : World) : Calls Tryz.prog 86 #[.int .i64 h] w fun e w' => e = .returned (.bool (decide (0 <= h /\ h < 7))) /\ w = w' := by
 by_cases h0 : 0 <= h <;> by_cases h1 : h < 7
 all_goals go_enter Tryz.func86, Tryz.ntmps86
 all_goals go_wp2
 all_goals go_ret
 all_goals exact ⟨rb (by simp [h0, h1]), rfl⟩
theorem there_as {h : Int} {r : Bool} (hr : Hid (r = decide (0 <= h /\ h < 7))) (w : World) : Calls Tryz.prog 86 #[.int .i64 h] w fun e w' => e = .returned (.bool r) /\ w = w' := by
 rw [hr.out]; exact lthere_any h w
def fitsL (a t : Ty) : Int := if a.k ≠ t.k then 33 else if t.k = 1 /\ withinB a.lo a.hi t.lo t.hi = false then 35 else 0
def fitL : List Ty -> List Ty -> Int
 | a :: l, t :: ts => if fitsL a t ≠ 0 then fitsL a t else fitL l ts
 | _, _ => 0
def hcheckL (h : Int) (xs : List Ty) : Int := if ¬ (0 <= h /\ h < 7) then 34 else if xs.length ≠ (argsL h).length then 2 else fitL xs (argsL h)
theorem grow2b {w w1 : World} {a b : Obj} (h : Below ((w.alloc a).alloc b).heap.size ((w.alloc a).alloc b) w1) : Below w.heap.size w w1 :=
 (((Below.refl _ _).alloc (Nat.le_refl _) a).alloc (by simp) b).trans (h.mono (by simp; omega))
theorem reti {a b : Int} (h : a = b) : Ending.returned (.int .i64 a) = .returned (.int .i64 b) := by rw [h]
theorem lwithin_as {a A b B : Int} {r : Bool} (h : Hid (r = withinB a A b B)) (w : World) : Calls Tryz.prog 84 #[.agg #[.int .u64 a, .int .u64 A], .agg #[.int .u64 b, .int .u64 B]] w fun e w' => e = .returned (.bool r) /\ Below w.heap.size w w' := by
 rw [h.out]; exact lwithin_any a A b B w
set_option maxHeartbeats 800000 in
theorem hfits_any (a t : Ty) (w : World) : Calls Tryz.prog 87 #[tyV a, tyV t] w fun e w' => e = .returned (.int .i64 (fitsL a t)) /\ Below w.heap.size w w' := by
 obtain ⟨ak, al, ah, am⟩ := a
 obtain ⟨tk, tl, th, tm⟩ := t
 by_cases hk : ak = tk
 ·subst hk
  by_cases h1 : ak = 1
  ·subst h1
   obtain ⟨r, HR⟩ : ∃ r, Hid (r = withinB al ah tl th) := ⟨_, rfl⟩
   cases r
   ·have HE : Hid (fitsL ⟨1, al, ah, am⟩ ⟨1, tl, th, tm⟩ = 35) := by show _ = _; unfold fitsL; simp [<- HR.out]
    go_enter Tryz.func87, Tryz.ntmps87
    go_wp2_with (go_at_call 84; go_must (refine (lwithin_as HR _).mono ?_); rintro e w1 ⟨rfl, hb1⟩)
    go_ret
    exact ⟨reti HE.out.symm, grow2b hb1⟩
   ·have HE : Hid (fitsL ⟨1, al, ah, am⟩ ⟨1, tl, th, tm⟩ = 0) := by show _ = _; unfold fitsL; simp [<- HR.out]
    go_enter Tryz.func87, Tryz.ntmps87
    go_wp2_with (go_at_call 84; go_must (refine (lwithin_as HR _).mono ?_); rintro e w1 ⟨rfl, hb1⟩)
    go_ret
    exact ⟨reti HE.out.symm, grow2b hb1⟩
  ·have HE : Hid (fitsL ⟨ak, al, ah, am⟩ ⟨ak, tl, th, tm⟩ = 0) := by show _ = _; unfold fitsL; simp [h1]
   go_enter Tryz.func87, Tryz.ntmps87
   go_wp2
   go_ret
   exact ⟨reti HE.out.symm, by go_grown⟩
 ·have HE : Hid (fitsL ⟨ak, al, ah, am⟩ ⟨tk, tl, th, tm⟩ = 33) := by show _ = _; unfold fitsL; simp [hk]
  go_enter Tryz.func87, Tryz.ntmps87
  go_wp2
  go_ret
  exact ⟨reti HE.out.symm, by go_grown⟩
theorem hfits_as {a t : Ty} {r : Int} (h : Hid (r = fitsL a t)) (w : World) : Calls Tryz.prog 87 #[tyV a, tyV t] w fun e w' => e = .returned (.int .i64 r) /\ Below w.heap.size w w' := by
 rw [h.out]; exact hfits_any a t w
theorem below_undrew {B : Nat} {Z w : World} (h : Below B Z.drew w) : Below B Z w := ⟨h.os, h.tape, h.output, h.size, h.block⟩
theorem fitL_step {xs ts : List Ty} {k : Nat} (h : xs.length = ts.length) (hk : k < ts.length) : fitL (xs.drop k) (ts.drop k) = if fitsL (xs.getD k Ty.nil) (ts.getD k Ty.nil) ≠ 0 then fitsL (xs.getD k Ty.nil) (ts.getD k Ty.nil) else fitL (xs.drop (k + 1)) (ts.drop (k + 1)) := by
 have h1 : xs.drop k = xs.getD k Ty.nil :: xs.drop (k + 1) := by rw [List.drop_eq_getElem_cons (by omega)]; simp [List.getD, h ▸ hk]
 have h2 : ts.drop k = ts.getD k Ty.nil :: ts.drop (k + 1) := by rw [List.drop_eq_getElem_cons (by omega)]; simp [List.getD, hk]
 rw [h1, h2]; rfl
theorem fitL_end {xs ts : List Ty} {k : Nat} (hk : ts.length <= k) : fitL (xs.drop k) (ts.drop k) = 0 := by
 rw [List.drop_eq_nil_of_le hk]
 cases xs.drop k <;> rfl
abbrev At2 (w : World) (b off : Nat) (x : Ty) (n off' : Nat) (t : Ty) : Prop :=
 (w.cell? ⟨b, off, none⟩ = some (.int .i64 x.k) /\ w.cell? ⟨b, off + 1, none⟩ = some (.int .u64 x.lo) /\ w.cell? ⟨b, off + 2, none⟩ = some (.int .u64 x.hi) /\ w.cell? ⟨b, off + 3, none⟩ = some (.int .i64 x.m)) /\
  w.cell? ⟨n, off', none⟩ = some (.int .i64 t.k) /\ w.cell? ⟨n, off' + 1, none⟩ = some (.int .u64 t.lo) /\ w.cell? ⟨n, off' + 2, none⟩ = some (.int .u64 t.hi) /\ w.cell? ⟨n, off' + 3, none⟩ = some (.int .i64 t.m)
theorem At2.below {w w' : World} {b off n off' B : Nat} {x t : Ty} (h : At2 w b off x n off' t) (hb : Below B w w') (h1 : b < B) (h2 : n < B) : At2 w' b off x n off' t := ⟨AtT.below (t := x) h.1 hb h1, AtT.below (t := t) h.2 hb h2⟩
theorem hcheck_any (h : Int) (v : Value) (xs : List Ty) (w : World) (hs : SeesT w v xs) : Calls Tryz.prog 60 #[.int .i64 h, v] w fun e w' => e = .returned (.int .i64 (hcheckL h xs)) /\ Below w.heap.size w w' := by
 by_cases hc : 0 <= h /\ h < 7
 ·have HT : Hid (true = decide (0 <= h /\ h < 7)) := show true = decide (0 <= h /\ h < 7) from (decide_eq_true hc).symm
  by_cases hl : xs.length = (argsL h).length
  ·have HE : Hid (hcheckL h xs = fitL xs (argsL h)) := by show _ = _; unfold hcheckL; rw [if_neg (by omega), if_neg (by omega)]
   have HL : Hid (xs.length = (argsL h).length) := hl
   obtain ⟨a, cap, rfl, hcap, hmax, hnone, hcell⟩ := hs
   have HS : Hid (xs ≠ [] -> ∃ b off, a = some ⟨b, off, none⟩ /\ b < w.heap.size /\ ∀ k, k < xs.length -> AtT w b (off + k * 4) (xs.getD k Ty.nil)) := hcell
   obtain ⟨n, HN⟩ : ∃ n, Hid (xs.length = n) := ⟨_, rfl⟩
   obtain ⟨ts, HTS⟩ : ∃ ts, Hid (ts = argsL h) := ⟨_, rfl⟩
   have HLT : Hid (ts.length = n) := by show _ = _; rw [HTS.out, <- HL.out, HN.out]
   rw [HN.out] at hcap ⊢
   unfold maxLen at hmax
   clear hl hc hcell hnone HL
   go_enter Tryz.func60, Tryz.ntmps60
   go_wp2_with (first
    | (go_at_call 86; go_must (refine (there_as HT _).mono ?_); rintro e w1 ⟨rfl, rfl⟩)
    | (go_at_call 61; go_must (refine (args_any h _).mono ?_); rintro e w2 ⟨u2, rfl, hown2, hb2⟩; go_must (rw [<- HTS.out] at hown2; obtain ⟨a2, c2, rfl, hcap2, hmax2, _, hcell2⟩ := own_seesT hown2; (have HS2 : Hid (ts ≠ [] -> ∃ b off, a2 = some ⟨b, off, none⟩ /\ b < w2.heap.size /\ ∀ k, k < ts.length -> AtT w2 b (off + k * 4) (ts.getD k Ty.nil)) := hcell2); rw [HLT.out] at hcap2 ⊢; unfold maxLen at hmax2; clear hown2 hcell2)))
   have hz2 := hb2.size
   go_loopw [21] (fun i wr => ∃ k : Nat, k <= n /\ i = .int .i64 k /\ fitL xs ts = fitL (xs.drop k) (ts.drop k) /\ Below w2.heap.size w2 wr) (fun i _ => n - (intOf i).toNat)
   case atStart => exact ⟨0, by omega, rfl, rfl, Below.refl _ _⟩
   case round =>
    obtain ⟨k, hk, rfl, hf, hbr⟩ := hrel
    have HF : Hid (fitL xs ts = fitL (xs.drop k) (ts.drop k)) := hf
    have hzr := hbr.size
    clear hf
    by_cases hlt : k < n
    ·obtain ⟨b, off, rfl, hb, hat⟩ := HS.out (fun h => by have := HN.out; rw [h] at this; simp at this; omega)
     obtain ⟨b2, off2, rfl, hbb2, hat2⟩ := HS2.out (fun h => by have := HLT.out; rw [h] at this; simp at this; omega)
     obtain ⟨x, HX⟩ : ∃ x, Hid (x = xs.getD k Ty.nil) := ⟨_, rfl⟩
     obtain ⟨t, HTT⟩ : ∃ t, Hid (t = ts.getD k Ty.nil) := ⟨_, rfl⟩
     obtain ⟨r, HR⟩ : ∃ r, Hid (r = fitsL x t) := ⟨_, rfl⟩
     have hA : AtT wr b (off + k * 4) x := by rw [HX.out]; exact ((hat k (by have := HN.out; omega)).below hb2 hb).below hbr (by omega)
     have hA2 : AtT wr b2 (off2 + k * 4) t := by rw [HTT.out]; exact (hat2 k (by have := HLT.out; omega)).below hbr hbb2
     have HQ : Hid (fitL xs ts = if r ≠ 0 then r else fitL (xs.drop (k + 1)) (ts.drop (k + 1))) := by
      show _ = _
      rw [HF.out, fitL_step (by rw [HN.out, HLT.out]) (by rw [HLT.out]; exact hlt), HR.out, HX.out, HTT.out]
     obtain ⟨xk, xl, xh, xm⟩ := x
     obtain ⟨tk, tl, th, tm⟩ := t
     obtain ⟨g0, g1, g2, g3⟩ := id hA2
     simp only at g0 g1 g2 g3
     obtain ⟨Z, HZ, hAt, hBZ, hzz⟩ : ∃ Z, Hid (Z = wr.alloc (tyO ⟨tk, tl, th, tm⟩)) /\ At2 Z b (off + k * 4) ⟨xk, xl, xh, xm⟩ wr.heap.size 0 ⟨tk, tl, th, tm⟩ /\ Below wr.heap.size wr Z /\ wr.heap.size < Z.heap.size :=
      ⟨_, rfl, ⟨AtT.below (t := ⟨xk, xl, xh, xm⟩) hA ((Below.refl wr.heap.size wr).alloc (Nat.le_refl _) _) (by omega), by go_cell, by go_cell, by go_cell, by go_cell⟩, (Below.refl _ _).alloc (Nat.le_refl _) _, by simp⟩
     clear hat hat2 hA hA2 HF
     by_cases hr : r = 0
     ·subst hr
      go_wp2
      rw [<- HZ.out]
      clear g0 g1 g2 g3
      go_region_held3 (fun w' => (w'.cell? ⟨b, off + k * 4, none⟩ = some (.int .i64 xk) /\ w'.cell? ⟨b, off + k * 4 + 1, none⟩ = some (.int .u64 xl) /\ w'.cell? ⟨b, off + k * 4 + 2, none⟩ = some (.int .u64 xh) /\ w'.cell? ⟨b, off + k * 4 + 3, none⟩ = some (.int .i64 xm)) /\ w'.cell? ⟨wr.heap.size, 0, none⟩ = some (.int .i64 tk) /\ w'.cell? ⟨wr.heap.size, 1, none⟩ = some (.int .u64 tl) /\ w'.cell? ⟨wr.heap.size, 2, none⟩ = some (.int .u64 th) /\ w'.cell? ⟨wr.heap.size, 3, none⟩ = some (.int .i64 tm))
       (first | exact hAt3 | exact hAt)
       (first | (go_at_call 87; go_must (refine (hfits_as HR _).mono ?_); rintro e w3 ⟨rfl, hb3'⟩; go_must (have hb3 : Below Z.heap.size Z w3 := below_undrew hb3'; have hAt3 := At2.below hAt hb3 (by omega) (by omega); have hB3 : Below w2.heap.size w2 w3 := (hbr.trans (hBZ.mono hzr)).trans (hb3.mono (by omega)); clear hb3')))
      go_wp2
      go_roundw
      case rel => exact ⟨k + 1, by omega, by go_num, by rw [HQ.out]; simp, hB3⟩
      case measure => simp [intOf]; omega
     ·go_wp2
      rw [<- HZ.out]
      clear g0 g1 g2 g3
      go_region_held3 (fun w' => (w'.cell? ⟨b, off + k * 4, none⟩ = some (.int .i64 xk) /\ w'.cell? ⟨b, off + k * 4 + 1, none⟩ = some (.int .u64 xl) /\ w'.cell? ⟨b, off + k * 4 + 2, none⟩ = some (.int .u64 xh) /\ w'.cell? ⟨b, off + k * 4 + 3, none⟩ = some (.int .i64 xm)) /\ w'.cell? ⟨wr.heap.size, 0, none⟩ = some (.int .i64 tk) /\ w'.cell? ⟨wr.heap.size, 1, none⟩ = some (.int .u64 tl) /\ w'.cell? ⟨wr.heap.size, 2, none⟩ = some (.int .u64 th) /\ w'.cell? ⟨wr.heap.size, 3, none⟩ = some (.int .i64 tm))
       (first | exact hAt3 | exact hAt)
       (first | (go_at_call 87; go_must (refine (hfits_as HR _).mono ?_); rintro e w3 ⟨rfl, hb3'⟩; go_must (have hb3 : Below Z.heap.size Z w3 := below_undrew hb3'; have hAt3 := At2.below hAt hb3 (by omega) (by omega); have hB3 : Below w2.heap.size w2 w3 := (hbr.trans (hBZ.mono hzr)).trans (hb3.mono (by omega)); clear hb3')))
      go_wp2
      go_ret
      exact ⟨reti (by rw [HE.out, <- HTS.out, HQ.out, if_pos hr]), hb2.trans (hB3.mono hz2)⟩
    ·obtain rfl : k = n := by omega
     go_wp2
     go_ret
     exact ⟨reti (by rw [HE.out, <- HTS.out, HF.out, fitL_end (by rw [HLT.out]; exact Nat.le_refl _)]), hb2.trans (hbr.mono hz2)⟩
  ·have HE : Hid (hcheckL h xs = 2) := by show _ = _; unfold hcheckL; rw [if_neg (by omega), if_pos hl]
   obtain ⟨a, cap, rfl⟩ := hs.shape
   obtain ⟨n, HN⟩ : ∃ n, Hid (xs.length = n) := ⟨_, rfl⟩
   obtain ⟨m, HM⟩ : ∃ m, Hid ((argsL h).length = m) := ⟨_, rfl⟩
   rw [HN.out, HM.out] at hl
   rw [HN.out]
   clear hs hc
   go_enter Tryz.func60, Tryz.ntmps60
   go_wp2_with (first
    | (go_at_call 86; go_must (refine (there_as HT _).mono ?_); rintro e w1 ⟨rfl, rfl⟩)
    | (go_at_call 61; go_must (refine (args_any h _).mono ?_); rintro e w2 ⟨u2, rfl, hown2, hb2⟩; go_must (obtain ⟨a2, c2, rfl⟩ := (own_seesT hown2).shape; rw [HM.out]; clear hown2)))
   go_ret
   exact ⟨reti HE.out.symm, hb2⟩
 ·have HT : Hid (false = decide (0 <= h /\ h < 7)) := show false = decide (0 <= h /\ h < 7) from (decide_eq_false hc).symm
  have HE : Hid (hcheckL h xs = 34) := by show _ = _; unfold hcheckL; rw [if_pos hc]
  clear hs
  go_enter Tryz.func60, Tryz.ntmps60
  go_wp2_with (go_at_call 86; go_must (refine (there_as HT _).mono ?_); rintro e w1 ⟨rfl, rfl⟩)
  go_ret
  exact ⟨reti HE.out.symm, by go_grown⟩
end Go.Proofs.YtkondcjmhlppiaaGreat
