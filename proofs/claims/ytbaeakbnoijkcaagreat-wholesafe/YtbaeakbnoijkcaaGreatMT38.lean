
/-
 What the landed judge's leave and ask come to, all ways together, in the plain judge's words. Conditions: a code that flow takes; states of eight well made types.
-/
import Derived.Test.YtbaeakbnoijkcaaGreatMT36
import Derived.Test.YtbaeakbnoijkcaaGreatMT37
import Derived.Test.YtbaeakbnoijkcaaGreatMT35
import Derived.Test.YtbaeakbnoijkcaaGreatMT16
namespace Go.Proofs.YtbaeakbnoijkcaaGreat
open Go.RowKit
set_option linter.unusedVariables false
set_option linter.unusedSimpArgs false
set_option maxRecDepth 100000

theorem right_fields {i : In} (hr : i.right = true) : (0 <= i.a /\ i.a <= 7) /\ (i.b = 8 ∨ (0 <= i.b /\ i.b <= 7)) := by
 obtain ⟨op, d, a, b, imm⟩ := i
 unfold In.right rightB at hr
 simp only at hr ⊢
 repeat' split at hr
 all_goals simp [regB, sourcedB] at hr
 all_goals omega
theorem wr_leaves {i : In} (hr : i.right = true) (s : St) (h : ¬ (16 <= i.op /\ i.op <= 19)) (b : Bool) : leavesJ i s b = some (wrS i s) := by
 have h0 : 0 <= i.op /\ i.op <= 22 := qAt hr
 unfold leavesJ wrS
 by_cases hw : i.wr.2 = true
 ·rw [if_pos hw]
  rcases writes_op i hw hr with ⟨e, ho⟩ | ⟨e, ho⟩
  ·rw [e]
   unfold madeT
   by_cases c0 : i.op = 0
   ·rw [if_pos c0, if_pos c0]
   rw [if_neg c0, if_neg c0]
   by_cases c1 : 1 <= i.op /\ i.op <= 10
   ·rw [if_pos (by simp [threeB]; omega), if_neg (by omega), if_neg (by omega), if_neg (by omega)]
   rw [if_neg (by simp [threeB]; omega)]
   by_cases c2 : i.op = 11 ∨ i.op = 13
   ·rw [if_pos c2, if_pos c2]
   rw [if_neg c2, if_neg c2, if_pos (by omega), if_pos (by omega)]
  ·rw [e]
   unfold madeT
   rw [if_neg (by omega), if_neg (by simp [threeB]; omega), if_neg (by omega), if_neg (by omega), if_pos ho, if_neg (by omega), if_neg (by omega), if_neg (by omega), if_pos ho]
   rfl
 ·rw [if_neg hw]
  have hn : ¬ (i.op <= 11 ∨ i.op = 13 ∨ i.op = 14) /\ ¬ i.op = 21 := by
   unfold In.wr writesL at hw
   rw [if_neg (by simp [show rightB i.op i.d i.a i.b i.imm = true from hr])] at hw
   by_cases c : i.op <= 11 ∨ i.op = 13 ∨ i.op = 14
   ·rw [if_pos c] at hw; simp at hw
   ·rw [if_neg c] at hw; exact ⟨c, by simpa using hw⟩
  rw [if_neg (by omega), if_neg (by simp [threeB]; omega), if_neg (by omega), if_neg (by omega), if_neg (by omega), if_neg (by simp [jumpB]; omega)]
theorem ref_leaves {i : In} (s : St) (h : 16 <= i.op /\ i.op <= 19) (r b : Bool) : refS i r s b = match leavesJ i s b with | none => (false, stZ) | some s' => (r, s') := by
 unfold leavesJ refS
 rw [if_neg (by omega), if_neg (by simp [threeB]; omega), if_neg (by omega), if_neg (by omega), if_neg (by omega), if_pos (by simp [jumpB]; omega)]
 cases refineR i.op (regT s i.a).lo (regT s i.a).hi (srcT i s).lo (srcT i s).hi b <;> rfl
theorem word_made {nm : Nat} {t : Ty} (h : Made nm t) : wordE t = if t.k ≠ 1 then 33 else if 15 < t.hi then 35 else 0 := by
 unfold wordE
 by_cases hk : t.k = 1
 ·have hh : 0 <= t.lo /\ t.lo <= t.hi := by rcases h with h | h | h <;> omega
  have hw : withinB t.lo t.hi 0 15 = decide (t.hi <= 15) := by
   rw [Bool.eq_iff_iff]
   simp [withinB, hasN]
   omega
  rw [hw]
  by_cases h15 : 15 < t.hi
  ·simp [hk, h15]
  ·simp [hk, h15]
 ·simp [hk]
theorem fitsAll_eq {nm : Nat} {s h : St} (hs : Made8 nm s) (hh : Made8 nm h) : fitsAllS s h = fitsAll s h := by
 unfold fitsAllS fitsAll
 rw [Bool.eq_iff_iff, List.all_eq_true, List.all_eq_true]
 constructor
 ·intro k r hr; rw [<- fits_eq (hs.get (List.mem_range.1 hr)) (hh.get (List.mem_range.1 hr))]; exact k r hr
 ·intro k r hr; rw [fits_eq (hs.get (List.mem_range.1 hr)) (hh.get (List.mem_range.1 hr))]; exact k r hr
theorem nums1 (t : Ty) : numsE [t] = if t.k ≠ 1 then 33 else 0 := by
 unfold numsE
 by_cases h : t.k = 1 <;> simp [h]
theorem nums2 (t u : Ty) : numsE [t, u] = if t.k ≠ 1 ∨ u.k ≠ 1 then 33 else 0 := by
 unfold numsE
 by_cases h : t.k = 1 <;> by_cases h' : u.k = 1 <;> simp [h, h']
theorem ask_asks {nm : Nat} {i : In} {s h : St} (hr : i.right = true) (hs : Made8 nm s) (hh : i.op = 20 -> Made8 nm h) : askK nm i s h = asksJ nm i s h := by
 have h0 : 0 <= i.op /\ i.op <= 22 := qAt hr
 have hb := (right_fields hr).2
 have hsrc : (i.op <= 12 ∨ (16 <= i.op /\ i.op <= 19)) -> srcA i s = srcT i s := fun ho => by unfold srcA; rw [if_pos (qBs hr ho).1]
 have hm := made_src (i := i) hs hb
 unfold askK asksJ
 by_cases c13 : i.op = 13 ∨ i.op = 15
 ·rw [if_pos c13, if_neg (by omega), if_pos c13]
 rw [if_neg c13]
 by_cases c0 : i.op = 0
 ·rw [if_pos c0, if_pos c0, hsrc (by omega)]
  unfold unlE
  by_cases hk : (srcT i s).k = 0 <;> simp [hk]
 rw [if_neg c0, if_neg c0, if_neg c13]
 by_cases c11 : i.op = 11
 ·rw [if_pos c11, if_neg (by omega), if_neg (by omega), if_pos c11, hsrc (by omega), word_made hm]
 rw [if_neg c11]
 by_cases c12 : i.op = 12
 ·rw [if_pos c12, nums1, word_made hm, if_neg (show ¬ i.op = 14 by omega), if_neg (show ¬ i.op = 21 by omega), if_neg c11, if_neg (show ¬ i.op = 20 by omega), if_neg (show ¬ i.op = 22 by omega), hsrc (by omega)]
  by_cases h1 : (regT s i.a).k = 1 <;> by_cases h2 : (srcT i s).k = 1 <;> simp [h1, h2, c12]
 rw [if_neg c12]
 by_cases c14 : i.op = 14
 ·rw [if_pos c14, if_pos c14]
  unfold unlE
  by_cases h1 : i.imm < (nm : Int)
  ·rw [if_pos (by simpa using h1), if_neg (by omega)]
  ·rw [if_neg (by simpa using h1), if_pos (by omega)]
 rw [if_neg c14, if_neg c14]
 by_cases c20 : i.op = 20
 ·rw [if_pos c20, nums1, fitsAll_eq hs (hh c20), if_neg (show ¬ i.op = 21 by omega), if_neg c11, if_pos c20]
  unfold unlE
  by_cases h1 : (regT s i.a).k = 1 <;> simp [h1]
 rw [if_neg c20]
 by_cases c21 : i.op = 21
 ·rw [if_pos c21, if_pos c21]
 rw [if_neg c21, if_neg c21, if_neg c11, if_neg c20]
 by_cases c22 : i.op = 22
 ·rw [if_pos c22, if_pos c22, nums1]
 rw [if_neg c22, if_neg c22, hsrc (by omega), nums2]
 by_cases h1 : (regT s i.a).k ≠ 1 ∨ (srcT i s).k ≠ 1
 ·rw [if_pos h1, if_pos h1]
 ·rw [if_neg h1, if_neg h1, if_neg (by omega)]
theorem mem_nth {xs : List In} {i : In} (h : i ∈ xs) : ∃ k, k < xs.length /\ nth xs k = i := by
 obtain ⟨k, hk, rfl⟩ := List.mem_iff_getElem.1 h
 exact ⟨k, hk, by simp [nth, List.getD, List.getElem?_eq_getElem hk]⟩
theorem Taken.right {xs : List In} (h : Taken xs) {k : Nat} (hk : k < xs.length) : (nth xs k).right = true := (place_ok hk (h.place k hk)).1
theorem Taken.rights {xs : List In} (h : Taken xs) : ∀ i ∈ xs, i.right = true := fun i hi => by
 obtain ⟨k, hk, rfl⟩ := mem_nth hi
 exact h.right hk
theorem Taken.loops {xs : List In} (h : Taken xs) : LpIn xs (loopsL xs) := fun l hl => by
 obtain ⟨k, _, _, _, h0, h1, h2, _⟩ := loop_ok h.place hl
 omega
theorem lblur_any {w0 w : World} {qb kb nm cb co ccap p : Nat} {vl : Value} {xs : List In} {ls : List Lp} {K : Kn} (h : Inq w0 w qb kb nm vl cb co ccap xs ls K) (hT : Taken xs) (hls : ls = loopsL xs) (hp : p < xs.length) (hM : MadeK nm K) :
  Calls Tryz.prog 38 #[.pointer (some ⟨qb, 0, none⟩), .int .i64 p] w fun e w' => e = .returned (.tuple #[]) /\ Inq w0 w' qb kb nm vl cb co ccap xs ls (K.set p ((K.getD p kn0).1, blurAll xs p ls (K.getD p kn0).2)) := by
 obtain ⟨la, lcap, hv, _⟩ := id h.lo
 subst hv
 exact lblur_core w0 w qb kb nm cb co ccap p la lcap xs ls K h hp hT.top hT.rights (hls ▸ hT.loops) _ _ rfl (hM.at p)
theorem lask_any {w0 w : World} {qb kb nm cb co ccap p : Nat} {vl : Value} {xs : List In} {ls : List Lp} {K : Kn} (h : Inq w0 w qb kb nm vl cb co ccap xs ls K) (hT : Taken xs) (hp : p < xs.length) (hM : MadeK nm K) {E : Int} (hE : Hid (E = asksJ nm (nth xs p) (K.getD p kn0).2 (K.getD ((p : Int) + (nth xs p).far).toNat kn0).2)) :
  Calls Tryz.prog 39 #[.pointer (some ⟨qb, 0, none⟩), .int .i64 p] w fun e w' => e = .returned (.int .i64 E) /\ Below w.heap.size w w' := by
 have hr := hT.right hp
 have hpl := place_ok hp (hT.place p hp)
 obtain ⟨ha, hb⟩ := right_fields hr
 rw [hE.out, <- ask_asks hr (hM.at p) (fun _ => hM.at _)]
 obtain ⟨op, d, a, b, imm, HI⟩ : ∃ op d a b imm, Hid (nth xs p = ⟨op, d, a, b, imm⟩) := ⟨_, _, _, _, _, rfl⟩
 rw [HI.out] at ha hb hpl ⊢
 simp only at ha hb
 obtain ⟨n, rfl⟩ := Int.eq_ofNat_of_zero_le ha.1
 exact lask_core w0 w qb kb nm cb co ccap p vl xs ls K h hp hT.top hM n (by omega) op d b imm HI _ _ rfl hb _ _ _ _ _ _ _ _ rfl rfl (fun _ => ⟨hpl.2.1, hpl.2.2.1⟩)
theorem made_ref {nm : Nat} {i : In} {s head : St} {r b : Bool} (hr : i.right = true) (hs : Made8 nm s) (ha : asksJ nm i s head = 0) (ho : 16 <= i.op /\ i.op <= 19) : Made8 nm (refS i r s b).2 := by
 rw [ref_leaves s ho r b]
 cases hl : leavesJ i s b with
 | none => exact made_zero nm
 | some s' => exact made_leaves hr hs ha hl
theorem lleave_any {w0 w : World} {qb kb nm cb co ccap p : Nat} {vl : Value} {xs : List In} {ls : List Lp} {K : Kn} (h : Inq w0 w qb kb nm vl cb co ccap xs ls K) (hT : Taken xs) (hp : p < xs.length) (hM : MadeK nm K) {head : St} (ha : asksJ nm (nth xs p) (K.getD p kn0).2 head = 0) :
  Calls Tryz.prog 40 #[.pointer (some ⟨qb, 0, none⟩), .int .i64 p] w fun e w' => e = .returned (.tuple #[]) /\ Inq w0 w' qb kb nm vl cb co ccap xs ls (leaveK (nth xs p) p K) := by
 have hr := hT.right hp
 have hpl := place_ok hp (hT.place p hp)
 have hg := qAo (nth xs p)
 obtain ⟨hfa, hfb⟩ := right_fields hr
 have hs := hM.at p
 have h64 := hT.top
 have hwm : ¬ (16 <= (nth xs p).op /\ (nth xs p).op <= 19) -> Made8 nm (wrS (nth xs p) (K.getD p kn0).2) := fun ho => made_leaves hr hs ha (wr_leaves hr _ ho false)
 have hrm : ∀ b, (16 <= (nth xs p).op /\ (nth xs p).op <= 19) -> Made8 nm (refS (nth xs p) (K.getD p kn0).1 (K.getD p kn0).2 b).2 := fun b ho => made_ref hr hs ha ho
 obtain ⟨r, s, HK⟩ : ∃ r s, Hid (K.getD p kn0 = (r, s)) := ⟨_, _, rfl⟩
 obtain ⟨op, d, a, b, imm, HI⟩ : ∃ op d a b imm, Hid (nth xs p = ⟨op, d, a, b, imm⟩) := ⟨_, _, _, _, _, rfl⟩
 unfold leaveK
 rw [HK.out] at hwm hrm ⊢
 rw [HI.out] at hwm hrm hg hpl hr hfa hfb ⊢
 simp only at hwm hrm hfa hfb ⊢
 have hrop : ¬ In.right ⟨op, d, a, b, imm⟩ = false := by rw [hr]; simp
 simp only [hr] at hg
 by_cases c22 : op = 22
 ·subst c22
  rw [if_pos rfl]
  exact lleave_exit w0 w qb kb nm cb co ccap p vl xs ls K h hp h64 hM d a b imm HI r s HK _ _ _ rfl rfl rfl
 rw [if_neg c22]
 by_cases c15 : op = 15
 ·subst c15
  rw [if_pos rfl]
  have hf : 0 <= In.far ⟨15, d, a, b, imm⟩ /\ In.far ⟨15, d, a, b, imm⟩ <= 64 := by rcases hg with hg | hg | hg | hg <;> simp at hg <;> omega
  exact lleave_jump w0 w qb kb nm cb co ccap p vl xs ls K h hp h64 hM d a b imm HI r s HK _ _ _ rfl rfl rfl _ (by omega) (show _ = _ by omega) hf
 rw [if_neg c15]
 by_cases c16 : 16 <= op /\ op <= 19
 ·rw [if_pos c16]
  have hf : (0 <= In.far ⟨op, d, a, b, imm⟩ /\ In.far ⟨op, d, a, b, imm⟩ <= 64) /\ In.on ⟨op, d, a, b, imm⟩ = true := by
   rcases hg with hg | hg | hg | hg <;> simp at hg
   ·refine ⟨by omega, ?_⟩
    rw [hg.2.2.2.2.1]; simpa using c15
   ·omega
   ·omega
  have hn1 := hpl.2.2.2 hf.2
  have h4 : op = 16 ∨ op = 17 ∨ op = 18 ∨ op = 19 := by omega
  rcases h4 with rfl | rfl | rfl | rfl
  ·exact lleave_if16 w0 w qb kb nm cb co ccap p vl xs ls K h hp h64 hM d a b imm HI r s HK _ _ _ rfl rfl rfl _ (by omega) (show _ = _ by omega) hf.1 hn1 hfa hfb _ _ _ _ rfl rfl (hrm false c16) (hrm true c16)
  ·exact lleave_if17 w0 w qb kb nm cb co ccap p vl xs ls K h hp h64 hM d a b imm HI r s HK _ _ _ rfl rfl rfl _ (by omega) (show _ = _ by omega) hf.1 hn1 hfa hfb _ _ _ _ rfl rfl (hrm false c16) (hrm true c16)
  ·exact lleave_if18 w0 w qb kb nm cb co ccap p vl xs ls K h hp h64 hM d a b imm HI r s HK _ _ _ rfl rfl rfl _ (by omega) (show _ = _ by omega) hf.1 hn1 hfa hfb _ _ _ _ rfl rfl (hrm false c16) (hrm true c16)
  ·exact lleave_if19 w0 w qb kb nm cb co ccap p vl xs ls K h hp h64 hM d a b imm HI r s HK _ _ _ rfl rfl rfl _ (by omega) (show _ = _ by omega) hf.1 hn1 hfa hfb _ _ _ _ rfl rfl (hrm false c16) (hrm true c16)
 rw [if_neg c16]
 have hon : In.on ⟨op, d, a, b, imm⟩ = true := by
  rcases hg with hg | hg | hg | hg <;> simp at hg
  ·omega
  ·exact hg.2.2.2.1
  ·rw [hg.2.2.2]; simpa using c22
 exact lleave_on w0 w qb kb nm cb co ccap p vl xs ls K h hp h64 hM op d a b imm HI r s HK _ _ _ rfl rfl rfl ⟨c22, c15, c16⟩ hr (hpl.2.2.2 hon) _ rfl (hwm c16)
end Go.Proofs.YtbaeakbnoijkcaaGreat
