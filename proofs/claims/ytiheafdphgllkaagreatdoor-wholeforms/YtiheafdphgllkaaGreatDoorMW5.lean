/-
  Tk
  R2Plain
-/
import Derived.Deep.RegionHeld
import Derived.WalkKit
namespace Go.Proofs.YtiheafdphgllkaaGreatDoor
open Go
open Go.RowKit
set_option linter.unusedVariables false
section
variable {P : Program} {md : Region.Mode} {ops : Array Oper} {Q : Exit -> Act -> World -> Prop} {S : World -> Prop} {fuel : Nat} {listed : Array Bool} {a : Act} {w : World}
structure Tk (ks : List Nat) (P : Program) (md : Region.Mode) (ops : Array Oper) (Q : Exit -> Act -> World -> Prop) (S : World -> Prop) (fuel : Nat) (listed : Array Bool) (a : Act) (w : World) : Prop where
 out : wpAnyH P md ops Q S fuel listed a w
theorem tkGo (ks : List Nat) (h : Tk ks P md ops Q S fuel listed a w) : wpAnyH P md ops Q S fuel listed a w := h.out
theorem tkEnd (h : wpAnyH P md ops Q S fuel listed a w) : Tk [] P md ops Q S fuel listed a w := ⟨h⟩
theorem tkOne {i : Nat} {ks : List Nat} {oi : Oper} {v : Value} (hi : ops[i]? = some oi) (hs : Region.noSelect ops = true) (hf : Region.free md ops listed i = true) (hr : (Region.ready md ops listed).contains i = true)
  (hQ : ∀ c a w, Q (.panic c) (a.put oi.dst v) w -> Q (.panic c) a w) (hS : S w) (hw : Region.wanted oi (yielded ops a.tmps) = true) (hy : ∀ w, S w -> (execOp a.eval oi).run P w = .ok (.value v) w)
  (h : Tk ks P md ops Q S fuel (listed.setIfInBounds i true) (a.put oi.dst v) w) : Tk (i :: ks) P md ops Q S (fuel + 1) listed a w :=
 ⟨wpAnyH_take hi hs hf hr hQ (Or.inl ⟨hw, hy⟩) hS h.out⟩
theorem runO (i : Nat) {o : Oper} (hr : Region.ready md ops listed = [i]) (ho : ops[i]? = some o) (hw : Region.wanted o (yielded ops a.tmps) = true)
  (h : ∀ K' : Act -> World -> Prop, Shut (∀ a w, S w -> (S w -> wpAnyH P md ops Q S fuel (listed.setIfInBounds i true) a w) -> K' a w) -> Oper.wp P o a w K' Q) : wpAnyH P md ops Q S (fuel + 1) listed a w :=
 wpAnyH_ready hr (by simp) (AllReadyH.cons ho (fun K hK => by rw [if_pos hw]; exact h K hK) AllReadyH.nil)
theorem runT (i j : Nat) {o u : Oper} (hr : Region.ready md ops listed = [i, j]) (ho : ops[i]? = some o) (hu : ops[j]? = some u) (hw : Region.wanted o (yielded ops a.tmps) = true) (hv : Region.wanted u (yielded ops a.tmps) = true)
  (h : ∀ K' : Act -> World -> Prop, Shut (∀ a w, S w -> (S w -> wpAnyH P md ops Q S fuel (listed.setIfInBounds i true) a w) -> K' a w) -> Oper.wp P o a w K' Q)
  (g : ∀ K' : Act -> World -> Prop, Shut (∀ a w, S w -> (S w -> wpAnyH P md ops Q S fuel (listed.setIfInBounds j true) a w) -> K' a w) -> Oper.wp P u a w K' Q) : wpAnyH P md ops Q S (fuel + 1) listed a w :=
 wpAnyH_ready hr (by simp) (AllReadyH.cons ho (fun K hK => by rw [if_pos hw]; exact h K hK) (AllReadyH.cons hu (fun K hK => by rw [if_pos hv]; exact g K hK) AllReadyH.nil))
theorem tkO {i : Nat} {ks : List Nat} {oi : Oper} {v : Value} (hi : ops[i]? = some oi) (hy : ∀ w, S w -> (execOp a.eval oi).run P w = .ok (.value v) w) (h : Tk ks P md ops Q S fuel (listed.setIfInBounds i true) (a.put oi.dst v) w)
  (hs : Region.noSelect ops = true := by kernel_rfl) (hf : Region.free md ops listed i = true := by kernel_rfl) (hr : (Region.ready md ops listed).contains i = true := by kernel_rfl)
  (hQ : ∀ c a w, Q (.panic c) (a.put oi.dst v) w -> Q (.panic c) a w := by exact fun _ _ _ h => h) (hS : S w := by assumption) (hw : Region.wanted oi (yielded ops a.tmps) = true := by rfl) : Tk (i :: ks) P md ops Q S (fuel + 1) listed a w :=
 tkOne hi hs hf hr hQ hS hw hy h
end
theorem p1q {α : Type _} {xs : List α} {i : Nat} (h : i < xs.toArray.size) : xs.toArray[i] = xs[i]'(by simpa using h) := rfl
theorem p2q {α : Type _} {a : α} {l : List α} (h : 0 < (a :: l).length) : (a :: l)[0] = a := rfl
theorem p3q {α : Type _} {a : α} {l : List α} {i : Nat} (h : i + 1 < (a :: l).length) : (a :: l)[i + 1] = l[i]'(Nat.lt_of_succ_lt_succ h) := rfl
theorem p4q {α : Type _} {l : List α} {i : Nat} {a : α} : l.toArray.setIfInBounds i a = (l.set i a).toArray := List.setIfInBounds_toArray ..
theorem p5q {α : Type _} {a b : α} {l : List α} : (b :: l).set 0 a = a :: l := rfl
theorem p6q {α : Type _} {a b : α} {n : Nat} {l : List α} : (b :: l).set (n + 1) a = b :: l.set n a := rfl
def regB (n : Int) : Bool := decide (0 <= n) && decide (n <= 7)
def sourcedB (b imm : Int) : Bool := (regB b && imm == 0) || b == 8
def threeB (op : Int) : Bool := decide (1 <= op) && decide (op <= 10)
def jumpB (op : Int) : Bool := decide (16 <= op) && decide (op <= 19)
def rightB (op d a b imm : Int) : Bool :=
 if op = 0 ∨ op = 11 then regB d && a == 0 && sourcedB b imm
 else if 1 <= op /\ op <= 10 then regB d && regB a && sourcedB b imm
 else if op = 12 then d == 0 && regB a && sourcedB b imm
 else if op = 13 then regB d && a == 0 && b == 0 && (imm == 0 || imm == 1)
 else if op = 14 then regB d && a == 0 && b == 0 && decide (0 <= imm) && decide (imm <= 3)
 else if op = 15 then decide (0 <= d) && decide (d <= 63) && a == 0 && b == 0 && imm == 0
 else if 16 <= op /\ op <= 19 then decide (0 <= d) && decide (d <= 63) && regB a && sourcedB b imm
 else if op = 20 then decide (1 <= d) && decide (d <= 63) && regB a && b == 0 && decide (1 <= imm) && decide (imm <= 255)
 else if op = 21 then d == 0 && a == 0 && b == 0 && decide (0 <= imm) && decide (imm <= 6)
 else if op = 22 then d == 0 && regB a && b == 0 && imm == 0
 else false
theorem rightB_three {op d a b imm : Int} (h : 1 <= op /\ op <= 10) : rightB op d a b imm = (regB d && regB a && sourcedB b imm) := by
 unfold rightB; rw [if_neg (by omega), if_pos h]
theorem rightB_jump {op d a b imm : Int} (h : 16 <= op /\ op <= 19) : rightB op d a b imm = (decide (0 <= d) && decide (d <= 63) && regB a && sourcedB b imm) := by
 unfold rightB; rw [if_neg (by omega), if_neg (by omega), if_neg (by omega), if_neg (by omega), if_neg (by omega), if_neg (by omega), if_pos h]
theorem rightB_none {op d a b imm : Int} (h : op < 0 ∨ 22 < op) : rightB op d a b imm = false := by
 unfold rightB
 rw [if_neg (by omega), if_neg (by omega), if_neg (by omega), if_neg (by omega), if_neg (by omega), if_neg (by omega), if_neg (by omega), if_neg (by omega), if_neg (by omega), if_neg (by omega)]
theorem rightB_0 {d a b imm : Int} : rightB 0 d a b imm = (regB d && a == 0 && sourcedB b imm) := by unfold rightB; simp
theorem rightB_11 {d a b imm : Int} : rightB 11 d a b imm = (regB d && a == 0 && sourcedB b imm) := by unfold rightB; simp
theorem rightB_12 {d a b imm : Int} : rightB 12 d a b imm = (d == 0 && regB a && sourcedB b imm) := by unfold rightB; simp
theorem rightB_13 {d a b imm : Int} : rightB 13 d a b imm = (regB d && a == 0 && b == 0 && (imm == 0 || imm == 1)) := by unfold rightB; simp
theorem rightB_14 {d a b imm : Int} : rightB 14 d a b imm = (regB d && a == 0 && b == 0 && decide (0 <= imm) && decide (imm <= 3)) := by unfold rightB; simp
theorem rightB_15 {d a b imm : Int} : rightB 15 d a b imm = (decide (0 <= d) && decide (d <= 63) && a == 0 && b == 0 && imm == 0) := by unfold rightB; simp
theorem rightB_20 {d a b imm : Int} : rightB 20 d a b imm = (decide (1 <= d) && decide (d <= 63) && regB a && b == 0 && decide (1 <= imm) && decide (imm <= 255)) := by unfold rightB; simp
theorem rightB_21 {d a b imm : Int} : rightB 21 d a b imm = (d == 0 && a == 0 && b == 0 && decide (0 <= imm) && decide (imm <= 6)) := by unfold rightB; simp
theorem rightB_22 {d a b imm : Int} : rightB 22 d a b imm = (d == 0 && regB a && b == 0 && imm == 0) := by unfold rightB; simp
def sourceB (op d a b imm : Int) : Bool := rightB op d a b imm && (decide (op <= 12) || jumpB op)
def writesL (op d a b imm : Int) : Int × Bool :=
 if rightB op d a b imm = false then (0, false) else if op <= 11 ∨ op = 13 ∨ op = 14 then (d, true) else (0, op == 21)
def goesL (op d a b imm : Int) : Int × Bool × Bool :=
 if rightB op d a b imm = false then (0, false, false) else if op = 15 then (d + 1, true, false) else if 16 <= op /\ op <= 19 then (d + 1, true, true) else if op = 20 then (-d, true, true) else (0, false, op != 22)
theorem right_op {op d a b imm : Int} (h : rightB op d a b imm = true) : 0 <= op /\ op <= 22 := by
 by_cases hx : op < 0 ∨ 22 < op
 ·rw [rightB_none hx] at h; cases h
 ·omega
theorem right_far {op d a b imm : Int} (h : rightB op d a b imm = true) (ho : 15 <= op /\ op <= 20) : 0 <= d /\ d <= 63 := by
 by_cases h1 : 16 <= op /\ op <= 19
 ·rw [rightB_jump h1] at h; simp at h; omega
 ·have : op = 15 ∨ op = 20 := by omega
  rcases this with rfl | rfl
  ·rw [rightB_15] at h; simp at h; omega
  ·rw [rightB_20] at h; simp at h; omega
theorem regB_bd {n : Int} (h : regB n = true) : 0 <= n /\ n <= 7 := by simp [regB] at h; exact h
theorem sourced_b {b imm : Int} (h : sourcedB b imm = true) : (0 <= b /\ b <= 7) ∨ b = 8 := by
 simp [sourcedB] at h
 rcases h with h | h
 ·exact .inl (regB_bd h.1)
 ·exact .inr h
theorem r2b {a b : Bool} (h : a = b) : Ending.returned (.bool a) = .returned (.bool b) := by rw [h]
end Go.Proofs.YtiheafdphgllkaaGreatDoor
