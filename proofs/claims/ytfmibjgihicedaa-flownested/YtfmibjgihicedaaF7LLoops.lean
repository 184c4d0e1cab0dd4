/-
  What the landed loopsOf answers: the loops, in new memory. Condition: a code of at most 64 instructions.
-/
import Derived.Test.YtfmibjgihicedaaF7LA
namespace Go.Proofs.Ytfmibjgihicedaa
open Go.RowKit
set_option linter.unusedVariables false
set_option maxRecDepth 20000

theorem Try.infoLoop : (Try.prog.info? 47).map (fun i => (i.zero, i.size, i.bytes)) = some (some (.agg #[.int .i64 0, .int .i64 0, .int .i64 0]), 3, 24) := by kernel_rfl
theorem goes_one {i : In} {op d a b imm f : Int} {l o : Bool} (hi : Hid (i = ⟨op, d, a, b, imm⟩)) (hf : Hid (f = i.far)) (hl : Hid (l = i.leads)) (ho : Hid (o = i.on)) (w : World) : Calls Try.prog 34 #[instV op d a b imm] w fun e w' => e = .returned (.tuple #[.int .i64 f, .bool l, .bool o]) ∧ Below w.heap.size w w' := by
  have h := goes_as hf hl ho w
  rw [hi.out] at h
  exact h
/-- What one loop more does to what is owned. -/
theorem step_loop {w wr w1 : World} {B : Nat} {e : TypeId} {v v' : Value} {o : Obj} {ys : List Lp} {l : Lp} (hown : wr.ownsRow B e 3 v ys.length (flatL ys)) (hbe : Below B w wr) (hB : B ≤ w.heap.size)
    (hown' : w1.ownsRow B e 3 v' (ys.length + 1) (flatL ys ++ lpC l)) (hgrow : (wr.alloc o).grownBy w1 v.ownBlock) :
    w1.ownsRow B e 3 v' (ys ++ [l]).length (flatL (ys ++ [l])) ∧ Below B w w1 := by
  have hs := hbe.size
  refine ⟨?_, (hbe.alloc (by omega) o).grown hgrow (by simp; omega) (fun k hk => (hown.lt k hk).1)⟩
  rw [← flatL_app]
  simpa [flatL] using hown'
set_option maxHeartbeats 1600000 in
theorem loops_any (v : Value) (xs : List In) (w : World) (hs : SeesI w v xs) (hn : xs.length ≤ 64) :
    Calls Try.prog 23 #[v] w fun e w' => ∃ v', e = .returned v' ∧ w'.ownsRow w.heap.size 47 3 v' (loopsL xs).length (flatL (loopsL xs)) ∧ Below w.heap.size w w' := by
  obtain ⟨i0, hi, hz0, hz1, hz2⟩ := info_parts Try.infoLoop
  obtain ⟨a, cap, rfl, hc, hm, hn0, hcell⟩ := hs
  have HC : Hid (xs ≠ [] → ∃ b off, a = some ⟨b, off, none⟩ ∧ b < w.heap.size ∧ ∀ k, k < xs.length → At w b (off + k * 5) (xs.getD k In.nil)) := hcell
  clear hcell
  go_enter Try.func23, Try.ntmps23
  go_wp2
  go_loopw [11, 3] (fun i v wr => ∃ (k : Nat) (ys : List Lp), k ≤ xs.length ∧ i = .int .i64 k ∧ Hid (ys = loopsU xs k) ∧ ys.length ≤ k ∧ wr.ownsRow w.heap.size 47 3 v ys.length (flatL ys) ∧ Below w.heap.size w wr) (fun i _ _ => xs.length - (intOf i).toNat)
  case atStart => exact ⟨0, [], by omega, rfl, rfl, by simp, World.ownsRow_nil _ _ _ _, Below.refl _ _⟩
  case round =>
    obtain ⟨k, ys, hk, rfl, HY, hyl, hown, hbe⟩ := hrel
    have hsz := hbe.size
    by_cases hlt : k < xs.length
    · obtain ⟨b, off, rfl, hb, hat⟩ := HC.out (fun h => by rw [h] at hlt; simp at hlt)
      obtain ⟨c0, c1, c2, c3, c4⟩ := (hat k hlt).below hbe hb
      have hbr : b < wr.heap.size := by omega
      clear hat
      obtain ⟨⟨op, d, a, bb, imm⟩, HI⟩ : ∃ i, Hid (nth xs k = i) := ⟨_, rfl⟩
      have HI2 : xs.getD k In.nil = ⟨op, d, a, bb, imm⟩ := HI.out
      rw [HI2] at c0 c1 c2 c3 c4
      clear HI2
      simp only at c0 c1 c2 c3 c4
      obtain ⟨f, HF⟩ : ∃ f, Hid (f = (nth xs k).far) := ⟨_, rfl⟩
      obtain ⟨l, HL⟩ : ∃ l, Hid (l = (nth xs k).leads) := ⟨_, rfl⟩
      obtain ⟨o, HO⟩ : ∃ o, Hid (o = (nth xs k).on) := ⟨_, rfl⟩
      have hfb := far_bd (nth xs k)
      rw [← HF.out] at hfb
      have HS : Hid (loopsU xs (k + 1) = ys ++ if op = 20 then [⟨k + f, k, imm⟩] else []) := by
        show _ = _
        rw [loopsU, HY.out]
        unfold lps lpAt
        rw [HF.out, HI.out]
      by_cases h20 : op = 20
      · subst h20
        go_wp2_with (first
          | (go_at_call 34; go_must (refine (goes_one HI HF HL HO _).mono ?_); rintro e w1 ⟨rfl, hb1⟩; go_must (have hbe1 : Below w.heap.size w w1 := hbe.trans ((box_below hb1).mono hsz); have hown1 := own_below (own_below hown ((Below.refl _ _).alloc (Nat.le_refl _) _) (Nat.le_refl _)) hb1 (Nat.le_refl _); obtain ⟨e0, e1, e2, e3, e4⟩ := box_cell hb1; have hsz1 := hbe1.size; clear hb1 hown))
          | (at_builtin; go_must (refine wpList_append_own _ rfl _ _ 41 rfl w.heap.size 47 i0 _ 3 24 Try.underlying41 hi hz0 hz1 hz2 rfl (by decide) _ _ _ rfl (hown1.alloc _) ⟨_, 0, none⟩ 1 1 (lpC ⟨k + f, k, imm⟩) rfl rfl (three_new _ _ _ _ _ _ rfl) (three_one _ _ _) (by unfold maxLen; omega) (by omega) (by simp; omega) ?_); intro v' w2 hown' hgrow _; have R := step_loop (l := ⟨k + f, k, imm⟩) hown1 hbe1 (Nat.le_refl _) hown' hgrow; clear hown' hgrow))
        go_roundw
        case rel => exact ⟨k + 1, ys ++ [⟨k + f, k, imm⟩], by omega, by go_num, by show _ = _; rw [HS.out]; rfl, by simp; omega, R.1, R.2⟩
        case measure => simp [intOf]; omega
      · have h20b : (op == 20) = false := by simpa using h20
        go_wp2
        go_roundw
        case rel => exact ⟨k + 1, ys, by omega, by go_num, by show _ = _; rw [HS.out, if_neg h20, List.append_nil], by omega, hown.alloc _, hbe.alloc (by omega) _⟩
        case measure => simp [intOf]; omega
    · obtain rfl : k = xs.length := by omega
      go_wp2
      go_ret
      refine ⟨_, rfl, ?_, hbe⟩
      rw [show loopsL xs = ys from HY.out.symm]
      exact hown
end Go.Proofs.Ytfmibjgihicedaa
