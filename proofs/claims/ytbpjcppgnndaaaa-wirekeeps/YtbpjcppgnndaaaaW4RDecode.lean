/-
  What the document's Decode does with any bytes: just what the plain function tells. Condition: the bytes lie where the slice says.
-/
import Derived.Test.YtbpjcppgnndaaaaW4RWorld
import Derived.Deep.RegionHeldLaw
namespace Go.Proofs.Ytbpjcppgnndaaaa
open Go.RowKit
set_option linter.unusedVariables false
set_option linter.unusedSimpArgs false
set_option maxRecDepth 100000

theorem Sees.cellLt {k : IntKind} {w : World} {b off n cap : Nat} {xs : List Int} (h : Sees k w (.slice (some ⟨b, off, none⟩) n cap) xs) (hi : 0 < xs.length) : b < w.heap.size := by
  obtain ⟨a', cap', hv, _, _, _, _, hs⟩ := h
  injection hv with e1
  subst e1
  obtain ⟨b', off', e2, hlt, hc⟩ := hs (fun e => by subst e; simp at hi)
  injection e2 with e2
  injection e2 with e2
  subst e2
  exact hlt
theorem below_dr {B : Nat} {a w : World} (h : Below B a w) : Below B a w.drew := ⟨h.os, h.tape, h.output, h.size, h.block⟩
theorem own_shape {w : World} {base : Nat} {e : TypeId} {z : Nat} {v : Value} {n : Nat} {xs : List Value} (h : w.ownsRow base e z v n xs) : ∃ a cap, v = .slice a n cap := by
  rcases h with ⟨_, ⟨rfl, h2⟩ | ⟨g, cap, cur, rfl, _⟩⟩
  · exact ⟨none, 0, by rw [h2]⟩
  · exact ⟨_, _, rfl⟩
theorem Dr.m5kept {w wr w1 : World} {vm vc : Value} {ms : List Int} {is : List In} {op d a b imm : Int} {o : Obj} {row : Option Nat} (h : Dr w wr vm vc ms is op d a b imm) (hr : row ≠ some (w.heap.size + 1)) (hg : (wr.alloc o).grownBy w1 row) : MdC w1 (w.heap.size + 1) vm vc := (h.m5.kept (grown_alloc _ _ none) (by simp)).kept hg hr
theorem int_eq {k : IntKind} {a b : Int} (h : a = b) : Value.int k a = Value.int k b := by rw [h]
theorem Dr.ends {w wr : World} {vm vc : Value} {ms : List Int} {is : List In} {op d a b imm : Int} (h : Dr w wr vm vc ms is op d a b imm) (x y : Value) : Below w.heap.size w ((wr.setCell ⟨w.heap.size, 0, none⟩ x).setCell ⟨w.heap.size, 1, none⟩ y) := (h.g.setCell (p := ⟨w.heap.size, 0, none⟩) (Nat.le_refl _) _).setCell (p := ⟨w.heap.size, 1, none⟩) (Nat.le_refl _) _

theorem next3 (n c : Int) (h0 : 0 ≤ n) : nextI 3 n c = ((if 0 < n then 4 else 5 : Nat) : Int) := by
  unfold nextI
  by_cases h : 0 < n
  · rw [if_pos ⟨by omega, h⟩, if_pos h]; rfl
  · rw [if_neg (by omega), if_pos (by omega), if_neg h]; rfl
theorem next4 (mc m : Nat) (x : Int) (hx : x = (mc : Int) - ((m + 1 : Nat) : Int)) (c : Int) : nextI 4 x c = ((if m + 1 < mc then 4 else 5 : Nat) : Int) := by
  subst hx
  unfold nextI
  by_cases h : m + 1 < mc
  · rw [if_pos ⟨by omega, by omega⟩, if_pos h]; rfl
  · rw [if_neg (by omega), if_pos (by omega), if_neg h]; rfl
theorem next10 (cc m : Nat) (x y : Int) (hx : x = (cc : Int) - ((m + 1 : Nat) : Int)) : nextI 10 y x = ((if m + 1 < cc then 6 else 11 : Nat) : Int) := by
  subst hx
  unfold nextI
  rw [if_neg (by omega), if_neg (by omega)]
  by_cases h : m + 1 < cc
  · rw [if_pos ⟨rfl, by omega⟩, if_pos h]; rfl
  · rw [if_neg (by omega), if_neg h]; rfl
theorem next_mid (st : Int) (h : 5 ≤ st) (h' : st ≤ 9) (x y : Int) : nextI st x y = st + 1 := by
  unfold nextI
  rw [if_neg (by omega), if_neg (by omega), if_neg (by omega)]
theorem bound0 {st n : Int} {ms : List Int} (h : boundI st n ms = 0) : ¬ ((st = 3 ∧ 4 < n) ∨ (st = 5 ∧ 64 < n)) ∧ ¬ ((st = 4 ∧ 3 < n) ∨ (st = 5 ∧ n = 0) ∨ (st = 6 ∧ 22 < n) ∨ (7 ≤ st ∧ st ≤ 9 ∧ 63 < n)) ∧ ¬ (st = 4 ∧ n ∈ ms) := by
  unfold boundI at h
  by_cases h1 : (st = 3 ∧ 4 < n) ∨ (st = 5 ∧ 64 < n)
  · rw [if_pos h1] at h; omega
  · rw [if_neg h1] at h
    by_cases h2 : (st = 4 ∧ 3 < n) ∨ (st = 5 ∧ n = 0) ∨ (st = 6 ∧ 22 < n) ∨ (7 ≤ st ∧ st ≤ 9 ∧ 63 < n)
    · rw [if_pos h2] at h; omega
    · rw [if_neg h2] at h
      by_cases h3 : st = 4 ∧ n ∈ ms
      · rw [if_pos h3] at h; omega
      · exact ⟨h1, h2, h3⟩
theorem head3 {xs : List Int} {u : Unit} {k : Nat} (h : headR xs 3 0 = headR xs (3 - k) k) (hk : k = 3) : headR xs 3 0 = .ok ((), 3) := by subst hk; rw [h]; rfl

set_option maxHeartbeats 25600000 in
theorem rdecode_any (v : Value) (xs : List Int) (w : World) (h : Sees .u8 w v xs) :
    Calls Try.prog 15 #[v] w fun e w' => ∃ vm vc, e = .returned (.tuple #[modV vm vc, .int .i64 (decL xs).2.1, .int .i64 (decL xs).2.2]) ∧
      w'.ownsRow w.heap.size 3 1 vm (decL xs).1.1.length ((decL xs).1.1.map (Value.int .i64)) ∧ w'.ownsRow w.heap.size 45 5 vc (decL xs).1.2.length (flat (decL xs).1.2) ∧ Below w.heap.size w w' := by
  obtain ⟨i0, hi, hz0, hz1, hz2⟩ := info_parts Try.infoInt
  obtain ⟨j0, hj, hy0, hy1, hy2⟩ := info_parts Try.infoInst4
  obtain ⟨ab, kb, hvb⟩ := h.shape
  have hLm := h.lenMax4
  have hcap : xs.length ≤ kb ∧ kb ≤ 9223372036854775807 := by
    obtain ⟨a', cap', hv, h1, h2, _⟩ := h
    rw [hvb] at hv
    injection hv with _ _ e
    subst e
    exact ⟨h1, h2⟩
  have HBY := keepH h.bytes
  have HS : Hid (∀ wk, Below w.heap.size w wk → Sees .u8 wk v xs) := fun wk hb => h.below hb (Nat.le_refl _)
  obtain ⟨L, HL⟩ : ∃ L, Hid (L = xs.length) := ⟨_, rfl⟩
  rw [← HL.out] at hvb hLm hcap
  subst hvb
  obtain ⟨hc1, hc2⟩ := hcap
  have HD0 := keepH (Dr.start w)
  clear h
  go_enter Try.func15, Try.ntmps15
  go_wp2_with fail
  go_loopw [7, 8] (fun p s wr => ∃ k : Nat, k ≤ 3 ∧ k ≤ L ∧ p = .int .i64 k ∧ s = .int .i64 k ∧ headR xs 3 0 = headR xs (3 - k) k ∧ Dr w wr nilV nilV [] [] 0 0 0 0 0) (fun p _ _ => 3 - (intOf p).toNat)
  case atStart => exact ⟨0, by omega, by omega, rfl, rfl, rfl, HD0.out⟩
  case round =>
    obtain ⟨k, hk, hkL, rfl, rfl, hh, hD⟩ := hrel
    have HH : Hid (headR xs 3 0 = headR xs (3 - k) k) := hh
    have HDR := keepH hD
    obtain ⟨c20, c21⟩ := hD.m2.cells
    have f20 := hD.m2.frozen 0
    have f21 := hD.m2.frozen 1
    clear hh hD
    by_cases hlt3 : k < 3
    · by_cases hlt : k < L
      · obtain ⟨b, off, e1, hcell⟩ := Sees.cellAt4 (HS.out wr HDR.out.g) k (by rw [← HL.out]; exact hlt)
        subst e1
        obtain ⟨c, HC⟩ : ∃ c, Hid (xs.getD k 0 = c) := ⟨_, rfl⟩
        rw [HC.out] at hcell
        have hbk : b < wr.heap.size := Sees.cellLt (HS.out wr HDR.out.g) (by rw [← HL.out]; omega)
        have hD := HDR.out
        by_cases hcc : c = headB k
        · have HN : Hid (headR xs 3 0 = headR xs (3 - (k + 1)) (k + 1)) := by
            show _ = _
            rw [HH.out, show 3 - k = (3 - (k + 1)) + 1 by omega, headR_more (by rw [← HL.out]; exact hlt) (HC.out.trans hcc)]
          obtain e | e | e : k = 0 ∨ k = 1 ∨ k = 2 := by omega
          · subst e
            have hcell : wr.cell? ⟨b, off, none⟩ = some (.int .u8 c) := hcell
            have hcn : (c != 84) = false := by rw [show c = 84 from hcc]; rfl
            clear hcc
            go_wp2_with fail
            go_region
            all_goals go_wp2_with fail
            all_goals go_roundw
            all_goals first
              | exact ⟨0 + 1, by omega, by omega, by go_num, by go_num, HN.out, (hD.alloc _).drew⟩
              | (simp [intOf]; done)
              | (simp [intOf]; omega)
          · subst e
            have hcn : (c != 80) = false := by rw [show c = 80 from hcc]; rfl
            clear hcc
            go_wp2_with fail
            go_region
            all_goals go_wp2_with fail
            all_goals go_roundw
            all_goals first
              | exact ⟨1 + 1, by omega, by omega, by go_num, by go_num, HN.out, (hD.alloc _).drew⟩
              | (simp [intOf]; done)
              | (simp [intOf]; omega)
          · subst e
            have hcn : (c != 1) = false := by rw [show c = 1 from hcc]; rfl
            clear hcc
            go_wp2_with fail
            go_region
            all_goals go_wp2_with fail
            all_goals go_roundw
            all_goals first
              | exact ⟨2 + 1, by omega, by omega, by go_num, by go_num, HN.out, (hD.alloc _).drew⟩
              | (simp [intOf]; done)
              | (simp [intOf]; omega)
        · have HN : Hid (decL xs = (([], []), (k : Int), 12)) := by
            refine decL_err ?_
            rw [decR, HH.out, show 3 - k = (3 - (k + 1)) + 1 by omega, headR_other (by rw [← HL.out]; exact hlt) (fun e => hcc (HC.out.symm.trans e))]
            rfl
          obtain e | e | e : k = 0 ∨ k = 1 ∨ k = 2 := by omega
          · subst e
            have hcell : wr.cell? ⟨b, off, none⟩ = some (.int .u8 c) := hcell
            have hcn : (c != 84) = true := by simp; exact hcc
            clear hcc
            go_wp2_with fail
            go_region
            all_goals
              have hD1 := hD.alloc (.cells #[.int .u8 84, .int .u8 80, .int .u8 1] 5)
              obtain ⟨e20, e21⟩ := hD1.m2.cells
              have h20 := hD1.m2.frozen 0
              have h21 := hD1.m2.frozen 1
              go_wp2_with fail
              refine bodyPost_ret (results_mod rfl _ _ w.heap.size _ #[nilV, nilV] (0, 0) _ rfl (hD1.m2.set _ _) Try.underlying25 rfl (by kernel_rfl)) rfl ?_
              rw [HN.out]
              exact ⟨_, _, rfl, World.ownsRow_nil _ _ _ _, World.ownsRow_nil _ _ _ _, below_dr ((hD1.g.setCell (p := ⟨w.heap.size, 0, none⟩) (Nat.le_refl _) _).setCell (p := ⟨w.heap.size, 1, none⟩) (Nat.le_refl _) _)⟩
          · subst e
            have hcn : (c != 80) = true := by simp; exact hcc
            clear hcc
            go_wp2_with fail
            go_region
            all_goals
              have hD1 := hD.alloc (.cells #[.int .u8 84, .int .u8 80, .int .u8 1] 5)
              obtain ⟨e20, e21⟩ := hD1.m2.cells
              have h20 := hD1.m2.frozen 0
              have h21 := hD1.m2.frozen 1
              go_wp2_with fail
              refine bodyPost_ret (results_mod rfl _ _ w.heap.size _ #[nilV, nilV] (0, 0) _ rfl (hD1.m2.set _ _) Try.underlying25 rfl (by kernel_rfl)) rfl ?_
              rw [HN.out]
              exact ⟨_, _, rfl, World.ownsRow_nil _ _ _ _, World.ownsRow_nil _ _ _ _, below_dr ((hD1.g.setCell (p := ⟨w.heap.size, 0, none⟩) (Nat.le_refl _) _).setCell (p := ⟨w.heap.size, 1, none⟩) (Nat.le_refl _) _)⟩
          · subst e
            have hcn : (c != 1) = true := by simp; exact hcc
            clear hcc
            go_wp2_with fail
            go_region
            all_goals
              have hD1 := hD.alloc (.cells #[.int .u8 84, .int .u8 80, .int .u8 1] 5)
              obtain ⟨e20, e21⟩ := hD1.m2.cells
              have h20 := hD1.m2.frozen 0
              have h21 := hD1.m2.frozen 1
              go_wp2_with fail
              refine bodyPost_ret (results_mod rfl _ _ w.heap.size _ #[nilV, nilV] (0, 0) _ rfl (hD1.m2.set _ _) Try.underlying25 rfl (by kernel_rfl)) rfl ?_
              rw [HN.out]
              exact ⟨_, _, rfl, World.ownsRow_nil _ _ _ _, World.ownsRow_nil _ _ _ _, below_dr ((hD1.g.setCell (p := ⟨w.heap.size, 0, none⟩) (Nat.le_refl _) _).setCell (p := ⟨w.heap.size, 1, none⟩) (Nat.le_refl _) _)⟩
      · have HN : Hid (decL xs = (([], []), (k : Int), 10)) := by
          refine decL_err ?_
          rw [decR, HH.out, show 3 - k = (3 - (k + 1)) + 1 by omega, headR_short (by rw [← HL.out]; omega)]
          rfl
        have hD1 := HDR.out
        go_wp2_with fail
        refine bodyPost_ret (results_mod rfl _ _ w.heap.size _ #[nilV, nilV] (0, 0) _ rfl (hD1.m2.set _ _) Try.underlying25 rfl (by kernel_rfl)) rfl ?_
        rw [HN.out]
        exact ⟨_, _, rfl, World.ownsRow_nil _ _ _ _, World.ownsRow_nil _ _ _ _, (hD1.g.setCell (p := ⟨w.heap.size, 0, none⟩) (Nat.le_refl _) _).setCell (p := ⟨w.heap.size, 1, none⟩) (Nat.le_refl _) _⟩
    · obtain rfl : k = 3 := by omega
      have HST := keepH (Stt.start (xs := xs) HH.out (by rw [← HL.out]; exact hkL))
      go_wp2_with fail
      rw [show ((3 : Nat) : Int) = 3 from rfl]
      go_loopw [7, 8, 9, 10, 11] (fun x7 x8 x9 x10 x11 wr => ∃ (p st mc cc p0 : Nat) (ms : List Int) (is : List In) (op d a b imm : Int) (vm vc : Value), x7 = .int .i64 p ∧ x8 = .int .i64 st ∧ x9 = .int .i64 mc ∧ x10 = .int .i64 cc ∧ x11 = .int .i64 p0 ∧ Stt xs st p mc cc p0 ms is op d a b imm ∧ Dr w wr vm vc ms is op d a b imm) (fun x7 _ _ _ _ _ => L - (intOf x7).toNat)
      case atStart => exact ⟨3, 3, 0, 0, 0, [], [], 0, 0, 0, 0, 0, nilV, nilV, rfl, rfl, rfl, rfl, rfl, HST.out, HDR.out⟩
      case round =>
        clear c20 c21 f20 f21 HDR HST HH hlt3 hkL hk
        obtain ⟨p, st, mc, cc, p0, ms, is, op, d, a, b, imm, vm, vc, rfl, rfl, rfl, rfl, rfl, hS, hD⟩ := hrel
        have HST := keepH hS
        have HD := keepH hD
        have hpL : p ≤ L := by rw [HL.out]; exact hS.ple
        have hsl := hS.lo
        have hsh := hS.hi
        have hmc := hS.mcb
        have hcc := hS.ccb
        have hml := hS.ml
        have hil := hS.il
        have hbig := hD.big
        obtain ⟨am, km, hvm⟩ := own_shape hD.om
        obtain ⟨ac, kc, hvc⟩ := own_shape hD.oc
        subst hvm hvc
        obtain ⟨c20, c21⟩ := hD.m2.cells
        have f20 := hD.m2.frozen 0
        have f21 := hD.m2.frozen 1
        obtain ⟨c50, c51⟩ := hD.m5.cells
        clear hS hD
        by_cases hst : st < 11
        · obtain ⟨cv, hsl2, hsee⟩ : ∃ cv, (∀ w, (Instr.slice 28 (.slice ab L kb) (some (.int .i64 p)) none none).run Try.prog w = .ok cv w) ∧ Sees .u8 wr cv (xs.drop p) := by
            have h0 := HS.out wr HD.out.g
            rw [HL.out] at h0
            have hc1' := hc1
            rw [HL.out] at hc1' hpL
            have h1 := h0.from' p hpL hc1'
            rw [← HL.out] at h1 hpL
            exact ⟨_, fun w => run_from Try.underlying28 size_u8 ab L kb p hpL w, h1⟩
          rcases get_at HBY.out p (by rw [← HL.out]; exact hpL) with ⟨e, he, hg⟩ | ⟨n, j, hg, hn0, hn1, hj1, hpj⟩
          · have HG := keepH (refget_eq hsee hg)
            have hen : (e != 0) = true := by simp; omega
            have HN : Hid (decL xs = (([], []), (p : Int), e)) := decL_err (HST.out.short hst hg (by omega))
            clear hg hsee he
            go_wp2_with (first
              | (go_at_call 28; go_must (refine HG.out.mono ?_); rintro e w' ⟨rfl, rfl⟩))
            refine bodyPost_ret (results_mod rfl _ _ w.heap.size _ #[nilV, nilV] (0, 0) _ rfl (HD.out.m2.set _ _) Try.underlying25 rfl (by kernel_rfl)) rfl ?_
            rw [HN.out]
            exact ⟨_, _, rfl, World.ownsRow_nil _ _ _ _, World.ownsRow_nil _ _ _ _, HD.out.ends _ _⟩
          · have HG := keepH (refget_eq hsee hg)
            have HGL := keepH hg
            have HBD := keepH (rbound_any st n (.slice am ms.length km) ms wr hsl hst hn0 hn1 (Sees.own HD.out.om (wf_small HST.out.mb)))
            rw [← HL.out] at hpj
            clear hg hsee
            by_cases hb : boundI st n ms = 0
            case neg =>
              obtain ⟨e, HB0⟩ : ∃ e, Hid (boundI st n ms = e) := ⟨_, rfl⟩
              have hen : (e != 0) = true := by rw [← HB0.out]; simpa using hb
              have HN : Hid (decL xs = (([], []), (p : Int), e)) := by
                have h1 := HST.out.bound hst HGL.out hb
                rw [HB0.out] at h1
                exact decL_err h1
              clear hb
              go_wp2_with (first
                | (go_at_call 28; go_must (refine HG.out.mono ?_); rintro e w' ⟨rfl, rfl⟩)
                | (go_at_call 29; go_must (refine HBD.out.mono ?_); rintro e w' ⟨rfl, rfl⟩; rw [HB0.out]))
              refine bodyPost_ret (results_mod rfl _ _ w.heap.size _ #[nilV, nilV] (0, 0) _ rfl (HD.out.m2.set _ _) Try.underlying25 rfl (by kernel_rfl)) rfl ?_
              rw [HN.out]
              exact ⟨_, _, rfl, World.ownsRow_nil _ _ _ _, World.ownsRow_nil _ _ _ _, HD.out.ends _ _⟩
            have HB0 : Hid (boundI st n ms = 0) := hb
            have hb0 := bound0 hb
            obtain ⟨b1, b2, b3⟩ := hb0
            have HB3 := keepH b3
            clear hb b3
            obtain hc | hc | hc | hc | hc | hc | hc | hc : st = 3 ∨ st = 4 ∨ st = 5 ∨ st = 6 ∨ st = 7 ∨ st = 8 ∨ st = 9 ∨ st = 10 := by omega
            · subst hc
              have hn : n ≤ 4 := by simp at b1; omega
              have HNX := keepH (HST.out.go3 HGL.out hn0 hn (by rw [← HL.out]; exact hpj))
              have HM0 : Hid (ms = [] ∧ is = []) := ⟨(HST.out.s3 rfl).1, (HST.out.s3 rfl).2.1⟩
              clear b1 b2
              go_wp2_with (first
                | (go_at_call 28; go_must (refine HG.out.mono ?_); rintro e w' ⟨rfl, rfl⟩)
                | (go_at_call 29; go_must (refine HBD.out.mono ?_); rintro e w' ⟨rfl, rfl⟩; rw [HB0.out])
                | (go_at_call 32; go_must (refine (rnext_any _ _ _ _ (by omega) (by omega)).mono ?_); rintro e w' ⟨rfl, rfl⟩))
              have HX : Hid (∀ c, nextI 3 (n - (ms.length : Int)) c = ((if 0 < n then 4 else 5 : Nat) : Int)) := fun c => by rw [HM0.out.1]; simpa using next3 n c hn0
              go_roundw
              case rel => exact ⟨p + j, if 0 < n then 4 else 5, n.toNat, cc, p0, ms, is, op, d, a, b, imm, _, _, by go_num, int_eq (HX.out _), int_eq (by omega), rfl, rfl, HNX.out, HD.out⟩
              case measure => simp [intOf]; omega
            · subst hc
              have hn : n ≤ 3 := by simp at b2; omega
              have HNX := keepH (HST.out.go4 HGL.out hn0 hn (fun h => HB3.out ⟨rfl, h⟩) (by rw [← HL.out]; exact hpj))
              clear b1 b2
              go_wp2_with (first
                | (go_at_call 28; go_must (refine HG.out.mono ?_); rintro e w' ⟨rfl, rfl⟩)
                | (go_at_call 29; go_must (refine HBD.out.mono ?_); rintro e w' ⟨rfl, rfl⟩; rw [HB0.out])
                | (at_builtin; have hq := HD; clear hq; go_must (refine wpList_append_own _ rfl _ _ 22 rfl (w.heap.size + 3) 3 i0 (.int .i64 0) 1 8 Try.underlying22 hi hz0 hz1 hz2 rfl (by decide) _ _ _ rfl (HD.out.om.alloc _) ⟨_, 0, none⟩ 1 1 [.int .i64 n] rfl rfl (cell_one_new _ _ _) (one_cell _ _) (by unfold maxLen; omega) (by omega) (by simp; omega) ?_); intro v1 w1 ho1 hg1 _; go_must (have hm := HD.out.m5kept (Dr.far HD.out.om 1 (by omega)) hg1; obtain ⟨e50, e51⟩ := hm.cells; have g50 := hm.frozen 0; have hD1 := HD.out.map ho1 hg1; obtain ⟨a1, k1, hv1⟩ := own_shape ho1; subst hv1; obtain ⟨q0, q1⟩ := hD1.m5.cells; have HD1 := keepH hD1; clear HD ho1 hg1 hm hD1))
                | (go_at_call 32; go_must (refine (rnext_any _ _ _ _ (by omega) (by omega)).mono ?_); rintro e w' ⟨rfl, rfl⟩))
              have HX : Hid (∀ c, nextI 4 ((mc : Int) - ((ms.length : Int) + 1)) c = ((if ms.length + 1 < mc then 4 else 5 : Nat) : Int)) := fun c => next4 mc ms.length _ (by omega) c
              go_roundw
              case rel => exact ⟨p + j, if ms.length + 1 < mc then 4 else 5, mc, cc, p0, ms ++ [n], is, op, d, a, b, imm, _, _, by go_num, int_eq (HX.out _), rfl, rfl, rfl, HNX.out, HD1.out⟩
              case measure => simp [intOf]; omega
            · subst hc
              have hn : 0 < n ∧ n ≤ 64 := by simp at b1 b2; omega
              have HNX := keepH (HST.out.go5 HGL.out hn.1 hn.2 (by rw [← HL.out]; exact hpj))
              obtain ⟨hn2, hn3⟩ := hn
              clear b1 b2
              go_wp2_with (first
                | (go_at_call 28; go_must (refine HG.out.mono ?_); rintro e w' ⟨rfl, rfl⟩)
                | (go_at_call 29; go_must (refine HBD.out.mono ?_); rintro e w' ⟨rfl, rfl⟩; rw [HB0.out])
                | (go_at_call 32; go_must (refine (rnext_any _ _ _ _ (by omega) (by omega)).mono ?_); rintro e w' ⟨rfl, rfl⟩))
              go_roundw
              case rel => exact ⟨p + j, 6, mc, n.toNat, p0, ms, is, op, d, a, b, imm, _, _, by go_num, int_eq (next_mid 5 (by omega) (by omega) _ _), rfl, int_eq (by omega), rfl, HNX.out, HD.out⟩
              case measure => simp [intOf]; omega
            · subst hc
              have hn : n ≤ 22 := by simp at b2; omega
              have HNX := keepH (HST.out.go6 HGL.out hn0 hn (by rw [← HL.out]; exact hpj))
              obtain ⟨c60, c61, c62, c63, c64⟩ : wr.cell? ⟨w.heap.size + 1 + 1, 0, none⟩ = some (.int .i64 op) ∧ wr.cell? ⟨w.heap.size + 1 + 1, 1, none⟩ = some (.int .i64 d) ∧ wr.cell? ⟨w.heap.size + 1 + 1, 2, none⟩ = some (.int .i64 a) ∧ wr.cell? ⟨w.heap.size + 1 + 1, 3, none⟩ = some (.int .i64 b) ∧ wr.cell? ⟨w.heap.size + 1 + 1, 4, none⟩ = some (.int .i64 imm) := HD.out.i6.cells
              have f60 : wr.frozen? ⟨w.heap.size + 1 + 1, 0, none⟩ = false := HD.out.i6.frozen 0
              have f61 : wr.frozen? ⟨w.heap.size + 1 + 1, 1, none⟩ = false := HD.out.i6.frozen 1
              have f62 : wr.frozen? ⟨w.heap.size + 1 + 1, 2, none⟩ = false := HD.out.i6.frozen 2
              have f63 : wr.frozen? ⟨w.heap.size + 1 + 1, 3, none⟩ = false := HD.out.i6.frozen 3
              have f64 : wr.frozen? ⟨w.heap.size + 1 + 1, 4, none⟩ = false := HD.out.i6.frozen 4
              have hD1 := HD.out.fresh n 0 0 0 0
              obtain ⟨q0, q1⟩ := hD1.m5.cells
              have HD1 := keepH hD1
              clear b1 b2 hD1
              go_wp2_with (first
                | (go_at_call 28; go_must (refine HG.out.mono ?_); rintro e w' ⟨rfl, rfl⟩)
                | (go_at_call 29; go_must (refine HBD.out.mono ?_); rintro e w' ⟨rfl, rfl⟩; rw [HB0.out])
                | (go_at_call 32; go_must (refine (rnext_any _ _ _ _ (by omega) (by omega)).mono ?_); rintro e w' ⟨rfl, rfl⟩))
              go_roundw
              case rel => exact ⟨p + j, 7, mc, cc, p, ms, is, n, 0, 0, 0, 0, _, _, by go_num, int_eq (next_mid 6 (by omega) (by omega) _ _), rfl, rfl, rfl, HNX.out, HD1.out⟩
              case measure => simp [intOf]; omega
            · subst hc
              have hn : n ≤ 63 := by simp at b2; omega
              have HNX := keepH (HST.out.go7 HGL.out hn0 hn (by rw [← HL.out]; exact hpj))
              obtain ⟨c60, c61, c62, c63, c64⟩ : wr.cell? ⟨w.heap.size + 1 + 1, 0, none⟩ = some (.int .i64 op) ∧ wr.cell? ⟨w.heap.size + 1 + 1, 1, none⟩ = some (.int .i64 d) ∧ wr.cell? ⟨w.heap.size + 1 + 1, 2, none⟩ = some (.int .i64 a) ∧ wr.cell? ⟨w.heap.size + 1 + 1, 3, none⟩ = some (.int .i64 b) ∧ wr.cell? ⟨w.heap.size + 1 + 1, 4, none⟩ = some (.int .i64 imm) := HD.out.i6.cells
              have f61 : wr.frozen? ⟨w.heap.size + 1 + 1, 1, none⟩ = false := HD.out.i6.frozen 1
              have hD1 := HD.out.store (HD.out.i6.set1 n)
              obtain ⟨q0, q1⟩ := hD1.m5.cells
              have HD1 := keepH hD1
              clear b1 b2 hD1
              go_wp2_with (first
                | (go_at_call 28; go_must (refine HG.out.mono ?_); rintro e w' ⟨rfl, rfl⟩)
                | (go_at_call 29; go_must (refine HBD.out.mono ?_); rintro e w' ⟨rfl, rfl⟩; rw [HB0.out])
                | (go_at_call 32; go_must (refine (rnext_any _ _ _ _ (by omega) (by omega)).mono ?_); rintro e w' ⟨rfl, rfl⟩))
              go_roundw
              case rel => exact ⟨p + j, 8, mc, cc, p0, ms, is, op, n, a, b, imm, _, _, by go_num, int_eq (next_mid 7 (by omega) (by omega) _ _), rfl, rfl, rfl, HNX.out, HD1.out⟩
              case measure => simp [intOf]; omega
            · subst hc
              have hn : n ≤ 63 := by simp at b2; omega
              have HNX := keepH (HST.out.go8 HGL.out hn0 hn (by rw [← HL.out]; exact hpj))
              obtain ⟨c60, c61, c62, c63, c64⟩ : wr.cell? ⟨w.heap.size + 1 + 1, 0, none⟩ = some (.int .i64 op) ∧ wr.cell? ⟨w.heap.size + 1 + 1, 1, none⟩ = some (.int .i64 d) ∧ wr.cell? ⟨w.heap.size + 1 + 1, 2, none⟩ = some (.int .i64 a) ∧ wr.cell? ⟨w.heap.size + 1 + 1, 3, none⟩ = some (.int .i64 b) ∧ wr.cell? ⟨w.heap.size + 1 + 1, 4, none⟩ = some (.int .i64 imm) := HD.out.i6.cells
              have f62 : wr.frozen? ⟨w.heap.size + 1 + 1, 2, none⟩ = false := HD.out.i6.frozen 2
              have hD1 := HD.out.store (HD.out.i6.set2 n)
              obtain ⟨q0, q1⟩ := hD1.m5.cells
              have HD1 := keepH hD1
              clear b1 b2 hD1
              go_wp2_with (first
                | (go_at_call 28; go_must (refine HG.out.mono ?_); rintro e w' ⟨rfl, rfl⟩)
                | (go_at_call 29; go_must (refine HBD.out.mono ?_); rintro e w' ⟨rfl, rfl⟩; rw [HB0.out])
                | (go_at_call 32; go_must (refine (rnext_any _ _ _ _ (by omega) (by omega)).mono ?_); rintro e w' ⟨rfl, rfl⟩))
              go_roundw
              case rel => exact ⟨p + j, 9, mc, cc, p0, ms, is, op, d, n, b, imm, _, _, by go_num, int_eq (next_mid 8 (by omega) (by omega) _ _), rfl, rfl, rfl, HNX.out, HD1.out⟩
              case measure => simp [intOf]; omega
            · subst hc
              have hn : n ≤ 63 := by simp at b2; omega
              have HNX := keepH (HST.out.go9 HGL.out hn0 hn (by rw [← HL.out]; exact hpj))
              obtain ⟨c60, c61, c62, c63, c64⟩ : wr.cell? ⟨w.heap.size + 1 + 1, 0, none⟩ = some (.int .i64 op) ∧ wr.cell? ⟨w.heap.size + 1 + 1, 1, none⟩ = some (.int .i64 d) ∧ wr.cell? ⟨w.heap.size + 1 + 1, 2, none⟩ = some (.int .i64 a) ∧ wr.cell? ⟨w.heap.size + 1 + 1, 3, none⟩ = some (.int .i64 b) ∧ wr.cell? ⟨w.heap.size + 1 + 1, 4, none⟩ = some (.int .i64 imm) := HD.out.i6.cells
              have f63 : wr.frozen? ⟨w.heap.size + 1 + 1, 3, none⟩ = false := HD.out.i6.frozen 3
              have hD1 := HD.out.store (HD.out.i6.set3 n)
              obtain ⟨q0, q1⟩ := hD1.m5.cells
              have HD1 := keepH hD1
              clear b1 b2 hD1
              go_wp2_with (first
                | (go_at_call 28; go_must (refine HG.out.mono ?_); rintro e w' ⟨rfl, rfl⟩)
                | (go_at_call 29; go_must (refine HBD.out.mono ?_); rintro e w' ⟨rfl, rfl⟩; rw [HB0.out])
                | (go_at_call 32; go_must (refine (rnext_any _ _ _ _ (by omega) (by omega)).mono ?_); rintro e w' ⟨rfl, rfl⟩))
              go_roundw
              case rel => exact ⟨p + j, 10, mc, cc, p0, ms, is, op, d, a, n, imm, _, _, by go_num, int_eq (next_mid 9 (by omega) (by omega) _ _), rfl, rfl, rfl, HNX.out, HD1.out⟩
              case measure => simp [intOf]; omega
            · subst hc
              obtain ⟨c60, c61, c62, c63, c64⟩ : wr.cell? ⟨w.heap.size + 1 + 1, 0, none⟩ = some (.int .i64 op) ∧ wr.cell? ⟨w.heap.size + 1 + 1, 1, none⟩ = some (.int .i64 d) ∧ wr.cell? ⟨w.heap.size + 1 + 1, 2, none⟩ = some (.int .i64 a) ∧ wr.cell? ⟨w.heap.size + 1 + 1, 3, none⟩ = some (.int .i64 b) ∧ wr.cell? ⟨w.heap.size + 1 + 1, 4, none⟩ = some (.int .i64 imm) := HD.out.i6.cells
              have f64 : wr.frozen? ⟨w.heap.size + 1 + 1, 4, none⟩ = false := HD.out.i6.frozen 4
              have hD1 := HD.out.store (HD.out.i6.set4 (unfoldI n))
              obtain ⟨z0, z1, z2, z3, z4⟩ : _ ∧ _ ∧ _ ∧ _ ∧ _ := hD1.i6.cells
              have HD1 := keepH hD1
              clear b1 b2 hD1
              cases hr : rightB op d a b (unfoldI n) with
              | false =>
                have HN : Hid (decL xs = (([], []), (p0 : Int), 12)) := decL_err (HST.out.wrong HGL.out hr)
                obtain ⟨u, HU⟩ : ∃ u, Hid (unfoldI n = u) := ⟨_, rfl⟩
                rw [HU.out] at HD1 z0 z1 z2 z3 z4 hr
                go_wp2_with (first
                  | (go_at_call 28; go_must (refine HG.out.mono ?_); rintro e w' ⟨rfl, rfl⟩)
                  | (go_at_call 29; go_must (refine HBD.out.mono ?_); rintro e w' ⟨rfl, rfl⟩; rw [HB0.out])
                  | (go_at_call 30; go_must (refine (rback_any n _ hn0 hn1).mono ?_); rintro e w' ⟨rfl, rfl⟩; rw [HU.out])
                  | (go_at_call 31; go_must (refine (right_any op d a b u _).mono ?_); rintro e w6 ⟨rfl, hb6⟩; rw [hr]; go_must (have hD6 := HD1.out.below hb6; obtain ⟨e20, e21⟩ := hD6.m2.cells; have g20 := hD6.m2.frozen 0; have g21 := hD6.m2.frozen 1; obtain ⟨e50, e51⟩ := hD6.m5.cells; obtain ⟨e60, e61, e62, e63, e64⟩ : w6.cell? ⟨w.heap.size + 1 + 1, 0, none⟩ = some (.int .i64 op) ∧ w6.cell? ⟨w.heap.size + 1 + 1, 1, none⟩ = some (.int .i64 d) ∧ w6.cell? ⟨w.heap.size + 1 + 1, 2, none⟩ = some (.int .i64 a) ∧ w6.cell? ⟨w.heap.size + 1 + 1, 3, none⟩ = some (.int .i64 b) ∧ w6.cell? ⟨w.heap.size + 1 + 1, 4, none⟩ = some (.int .i64 u) := hD6.i6.cells; have hbig6 := hD6.big; have HD6 := keepH hD6; clear hD6 HD1 hb6)))
                refine bodyPost_ret (results_mod rfl _ _ w.heap.size _ #[nilV, nilV] (0, 0) _ rfl (HD6.out.m2.set _ _) Try.underlying25 rfl (by kernel_rfl)) rfl ?_
                rw [HN.out]
                exact ⟨_, _, rfl, World.ownsRow_nil _ _ _ _, World.ownsRow_nil _ _ _ _, HD6.out.ends _ _⟩
              | true =>
                have HNX := keepH (HST.out.go10 HGL.out hn0 hn1 hr (by rw [← HL.out]; exact hpj))
                obtain ⟨u, HU⟩ : ∃ u, Hid (unfoldI n = u) := ⟨_, rfl⟩
                rw [HU.out] at HD1 z0 z1 z2 z3 z4 hr HNX
                go_wp2_with (first
                  | (go_at_call 28; go_must (refine HG.out.mono ?_); rintro e w' ⟨rfl, rfl⟩)
                  | (go_at_call 29; go_must (refine HBD.out.mono ?_); rintro e w' ⟨rfl, rfl⟩; rw [HB0.out])
                  | (go_at_call 30; go_must (refine (rback_any n _ hn0 hn1).mono ?_); rintro e w' ⟨rfl, rfl⟩; rw [HU.out])
                  | (go_at_call 31; go_must (refine (right_any op d a b u _).mono ?_); rintro e w6 ⟨rfl, hb6⟩; rw [hr]; go_must (have hD6 := HD1.out.below hb6; obtain ⟨e20, e21⟩ := hD6.m2.cells; have g20 := hD6.m2.frozen 0; have g21 := hD6.m2.frozen 1; obtain ⟨e50, e51⟩ := hD6.m5.cells; obtain ⟨e60, e61, e62, e63, e64⟩ : w6.cell? ⟨w.heap.size + 1 + 1, 0, none⟩ = some (.int .i64 op) ∧ w6.cell? ⟨w.heap.size + 1 + 1, 1, none⟩ = some (.int .i64 d) ∧ w6.cell? ⟨w.heap.size + 1 + 1, 2, none⟩ = some (.int .i64 a) ∧ w6.cell? ⟨w.heap.size + 1 + 1, 3, none⟩ = some (.int .i64 b) ∧ w6.cell? ⟨w.heap.size + 1 + 1, 4, none⟩ = some (.int .i64 u) := hD6.i6.cells; have hbig6 := hD6.big; have HD6 := keepH hD6; clear hD6 HD1 hb6))
                  | (at_builtin; have hq := HD6; clear hq; go_must (refine wpList_append_own _ rfl (.tmp 113) (.tmp 115) 23 rfl (w.heap.size + 3) 45 j0 (instV 0 0 0 0 0) 5 40 Try.underlying23 hj hy0 hy1 hy2 rfl (by decide) _ _ _ rfl (HD6.out.oc.alloc _) ⟨_, 0, none⟩ 1 1 (flat [In.mk op d a b u]) rfl rfl (one_inst _ _ ⟨op, d, a, b, u⟩ _ (by simp)) (flat_one _) (by unfold maxLen; omega) (by omega) (by simp; omega) ?_); intro v1 w7 ho1 hg1 _; go_must (have hm := HD6.out.m5kept (Dr.far HD6.out.oc 1 (by omega)) hg1; obtain ⟨r50, r51⟩ := hm.cells; have g51 := hm.frozen 1; have hD7 := HD6.out.inst ho1 hg1; obtain ⟨a1, k1, hv1⟩ := own_shape ho1; subst hv1; obtain ⟨q0, q1⟩ := hD7.m5.cells; have HD7 := keepH hD7; clear HD6 ho1 hg1 hm hD7))
                  | (go_at_call 32; go_must (refine (rnext_any _ _ _ _ (by omega) (by omega)).mono ?_); rintro e w' ⟨rfl, rfl⟩))
                have HX : Hid (∀ c, nextI 10 c ((cc : Int) - ((is.length : Int) + 1)) = ((if is.length + 1 < cc then 6 else 11 : Nat) : Int)) := fun c => next10 cc is.length _ c (by omega)
                go_roundw
                case rel => exact ⟨p + j, if is.length + 1 < cc then 6 else 11, mc, cc, p0, ms, is ++ [⟨op, d, a, b, u⟩], op, d, a, b, u, _, _, by go_num, int_eq (HX.out _), rfl, rfl, rfl, HNX.out, HD7.out⟩
                case measure => simp [intOf]; omega
        · obtain rfl : st = 11 := by omega
          by_cases hlt : p < L
          · have HN : Hid (decL xs = (([], []), (p : Int), 13)) := HST.out.trail (by rw [← HL.out]; exact hlt)
            go_wp2_with fail
            refine bodyPost_ret (results_mod rfl _ _ w.heap.size _ #[nilV, nilV] (0, 0) _ rfl (HD.out.m2.set _ _) Try.underlying25 rfl (by kernel_rfl)) rfl ?_
            rw [HN.out]
            exact ⟨_, _, rfl, World.ownsRow_nil _ _ _ _, World.ownsRow_nil _ _ _ _, HD.out.ends _ _⟩
          · have HN : Hid (decL xs = ((ms, is), 0, 0)) := HST.out.all (by rw [← HL.out]; exact hlt)
            go_wp2_with fail
            have hs := (grown_set wr ⟨w.heap.size, 0, none⟩ (.slice am ms.length km)).trans (grown_set _ ⟨w.heap.size, 1, none⟩ (.slice ac is.length kc))
            refine bodyPost_ret (results_mod rfl _ _ w.heap.size _ #[.slice am ms.length km, .slice ac is.length kc] (0, 0) _ rfl (HD.out.m2.set _ _) Try.underlying25 rfl (by kernel_rfl)) rfl ?_
            rw [HN.out]
            exact ⟨_, _, rfl, own_base (HD.out.om.kept hs (.inr (Dr.far HD.out.om 0 (by omega)))) (by omega), own_base (HD.out.oc.kept hs (.inr (Dr.far HD.out.oc 0 (by omega)))) (by omega), HD.out.ends _ _⟩
end Go.Proofs.Ytbpjcppgnndaaaa
