/-
  FlowEnds, walked: it answers true. Condition: the code takes up no more bytes than an argument may.
-/
import Derived.Test.YtfmibjgihicedaaF7WNexts
import Derived.Test.YtfmibjgihicedaaF7Way
namespace Go.Proofs.Ytfmibjgihicedaa
open Go.RowKit Go.Deep
set_option linter.unusedVariables false
set_option maxRecDepth 20000

/-- A state of the way: where it is, how often each loop has led back, how much is left. -/
structure Wy (w : World) (B : Nat) (xs : List In) (C : Int) (n : Nat) (k : Nat) (c : Int → Int) (wr : World) : Prop where
  cnt : Cnt (loopsL xs) c
  left : left (loopsL xs) k c xs.length + n ≤ C
  row : wr.rowIs B 3 xs.length (fun i => .int .i64 (c i))
  below : Below w.heap.size w wr
theorem Wy.lt {w wr : World} {B : Nat} {xs : List In} {C : Int} {n k : Nat} {c : Int → Int} (h : Wy w B xs C n k c wr) (T : Taken xs) (hk : k < xs.length) : (n : Int) < C := by
  have h1 := left_pos h.cnt (bnd_ok T.place) k xs.length hk
  have h2 := h.left
  omega
/-- One step that writes nothing. -/
theorem Wy.on {w wr w1 : World} {B : Nat} {xs : List In} {C : Int} {n k : Nat} {c : Int → Int} {to : Int} (h : Wy w B xs C n k c wr) (T : Taken xs) (hk : k < xs.length) (hb : Below wr.heap.size wr w1) (h20 : (nth xs k).op ≠ 20)
    (hto : (to = k + 1 ∧ (nth xs k).on = true) ∨ (to = k + (nth xs k).far ∧ (nth xs k).leads = true)) : ∃ k' : Nat, to = k' ∧ k' < xs.length ∧ Wy w B xs C (n + 1) k' c w1 := by
  have hs := way_step T hk h.cnt (c' := c) (k' := to) (fun _ _ => rfl) (by
    rcases hto with h1 | h1
    · exact .inl ⟨h1.1, fun e => absurd e h20, h1.2⟩
    · exact .inr (.inl ⟨h1.1, h1.2, h20⟩))
  obtain ⟨s1, s2, s3, s4⟩ := hs
  have hl := h.left
  refine ⟨to.toNat, by omega, by omega, s1, ?_, h.row.of_block (hb.block B h.row.lt), h.below.trans (hb.mono h.below.size)⟩
  have e : ((to.toNat : Nat) : Int) = to := by omega
  rw [e]
  omega
/-- One step of a loop, which writes its count. -/
theorem Wy.loop {w wr w1 : World} {B : Nat} {xs : List In} {C : Int} {n k : Nat} {c : Int → Int} {to x : Int} (h : Wy w B xs C n k c wr) (T : Taken xs) (hk : k < xs.length) (hb : Below wr.heap.size wr w1) (h20 : (nth xs k).op = 20) (hB : w.heap.size ≤ B)
    (hto : (to = k + 1 ∧ x = 0) ∨ (to = k + (nth xs k).far ∧ c k < (nth xs k).imm ∧ x = c k + 1)) : ∃ (k' : Nat) (c' : Int → Int), to = k' ∧ k' < xs.length ∧ Wy w B xs C (n + 1) k' c' (w1.setCell ⟨B, k, none⟩ (.int .i64 x)) := by
  have hon : (nth xs k).on = true := by
    have hr := (place_ok hk (T.place k hk)).1
    rcases goes_parts (nth xs k) with g | g | g | g
    · rw [g.1] at hr; cases hr
    · omega
    · exact g.2.2.2.2.1
    · omega
  have hs := way_step T hk h.cnt (c' := fun t => if t = k then x else c t) (k' := to) (fun t ht => if_neg ht) (by
    rcases hto with h1 | h1
    · exact .inl ⟨h1.1, fun _ => by rw [if_pos rfl]; exact h1.2, hon⟩
    · exact .inr (.inr ⟨h1.1, h20, h1.2.1, by rw [if_pos rfl]; exact h1.2.2⟩))
  obtain ⟨s1, s2, s3, s4⟩ := hs
  have hl := h.left
  refine ⟨to.toNat, _, by omega, by omega, s1, ?_, ?_, below_setc (h.below.trans (hb.mono h.below.size)) hB⟩
  · have e : ((to.toNat : Nat) : Int) = to := by omega
    rw [e]
    omega
  · refine ((h.row.of_block (hb.block B h.row.lt)).set k (.int .i64 x)).congr fun i hi => ?_
    by_cases e : i = k
    · subst e
      rw [if_pos rfl, if_pos rfl]
    · rw [if_neg e, if_neg (by omega)]
theorem Wy.drew {w wr : World} {B : Nat} {xs : List In} {C : Int} {n k : Nat} {c : Int → Int} (h : Wy w B xs C n k c wr) : Wy w B xs C n k c wr.drew := ⟨h.cnt, h.left, h.row, ⟨h.below.os, h.below.tape, h.below.output, h.below.size, h.below.block⟩⟩
theorem own_one {w : World} {base : Nat} {e : TypeId} {v : Value} {x : Int} (h : w.ownsRow base e 1 v ([x] : List Int).length (([x] : List Int).map (Value.int .i64))) : ∃ g cap, v = .slice (some ⟨g, 0, none⟩) 1 cap ∧ base ≤ g ∧ g < w.heap.size ∧ 1 ≤ cap ∧ w.cell? ⟨g, 0, none⟩ = some (.int .i64 x) := by
  obtain ⟨g, cap, h1, h2, h3, h4, h5, h6⟩ := own_open h (by simp)
  exact ⟨g, cap, h1, h2, h3, h4, h6 0 _ rfl⟩
theorem own_two {w : World} {base : Nat} {e : TypeId} {v : Value} {x y : Int} (h : w.ownsRow base e 1 v ([x, y] : List Int).length (([x, y] : List Int).map (Value.int .i64))) : ∃ g cap, v = .slice (some ⟨g, 0, none⟩) 2 cap ∧ base ≤ g ∧ g < w.heap.size ∧ 2 ≤ cap ∧ w.cell? ⟨g, 0, none⟩ = some (.int .i64 x) ∧ w.cell? ⟨g, 1, none⟩ = some (.int .i64 y) := by
  obtain ⟨g, cap, h1, h2, h3, h4, h5, h6⟩ := own_open h (by simp)
  exact ⟨g, cap, h1, h2, h3, h4, h6 0 _ rfl, h6 1 _ rfl⟩
theorem cost_top {xs : List In} (T : Taken xs) : 0 ≤ costA xs ∧ costA xs ≤ 256 ∧ costA xs = costT (loopsL xs) xs.length := by
  have h : errL xs = 0 := check_ok.2 T
  unfold costA
  rw [if_pos h]
  have h1 := T.cost
  have h2 := costC_le (bnd_ok T.place) xs.length
  exact ⟨by omega, by omega, (cost_eq T).2⟩
end Go.Proofs.Ytfmibjgihicedaa
