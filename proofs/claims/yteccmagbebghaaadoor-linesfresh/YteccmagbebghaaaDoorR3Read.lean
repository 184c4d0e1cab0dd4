/-
  What the document's Read does: a line's instruction, and whether it is one's. Condition: the line is of four million bytes at most.
-/
import Derived.Test.YteccmagbebghaaaDoorR3Cut
import Derived.Test.YteccmagbebghaaaDoorR3Words
import Derived.Test.YteccmagbebghaaaDoorR3Lines
import Derived.Test.YteccmagbebghaaaDoorR3Text
import Derived.Deep.CutRange
import Derived.Deep.CutBlock
namespace Go.Proofs.YteccmagbebghaaaDoor
open Go.RowKit
set_option linter.unusedVariables false
set_option maxRecDepth 100000

theorem wordsL_ne (l : List UInt8) : ∃ w ts, wordsL l = w :: ts := by
  cases h : wordsL l with
  | nil =>
    exfalso
    have : ∀ (l acc : List UInt8), wordsF acc l ≠ [] := by
      intro l
      induction l with
      | nil => intro acc; simp [wordsF]
      | cons c r ih => intro acc; unfold wordsF; split; simp; exact ih _
    exact this l [] h
  | cons w ts => exact ⟨w, ts, rfl⟩
theorem wordsF_wlen : ∀ (l acc : List UInt8) (x : List UInt8), x ∈ wordsF acc l → x.length ≤ acc.length + l.length
  | [], acc, x, h => by simp [wordsF] at h; subst h; simp
  | c :: r, acc, x, h => by
    unfold wordsF at h
    split at h
    · rcases List.mem_cons.1 h with rfl | h
      · simp
      · have := wordsF_wlen r [] x h; simp at this ⊢; omega
    · have := wordsF_wlen r (acc ++ [c]) x h; simp at this ⊢; omega
theorem readL_cut {l w : List UInt8} {ts : List (List UInt8)} (h : wordsL l = w :: ts) : readL l = readW (findL (str w)) ts l := by unfold readL; rw [h]; rfl

/-- A box that may be written: its cells, and that none is frozen. -/
abbrev Wbox (w : World) (n : Nat) (op d a b imm : Int) : Prop := Box w n op d a b imm ∧ w.frozen? ⟨n, 0, none⟩ = false ∧ w.frozen? ⟨n, 1, none⟩ = false ∧ w.frozen? ⟨n, 2, none⟩ = false ∧ w.frozen? ⟨n, 3, none⟩ = false ∧ w.frozen? ⟨n, 4, none⟩ = false
theorem Wbox.below {w w' : World} {n B : Nat} {op d a b imm : Int} (h : Wbox w n op d a b imm) (hb : Below B w w') (hB : n < B) : Wbox w' n op d a b imm := by
  refine ⟨h.1.below hb hB, ?_⟩
  rw [hb.frozen (p := ⟨n, 0, none⟩) hB, hb.frozen (p := ⟨n, 1, none⟩) hB, hb.frozen (p := ⟨n, 2, none⟩) hB, hb.frozen (p := ⟨n, 3, none⟩) hB, hb.frozen (p := ⟨n, 4, none⟩) hB]
  exact h.2
theorem wbox_new (w : World) (op d a b imm : Int) : Wbox (w.alloc (instO op d a b imm)) w.heap.size op d a b imm := by simp [Wbox, Box]

/-- A boxed instruction, loaded whole. -/
theorem run_box {w : World} {n : Nat} {op d a b imm : Int} (h : Box w n op d a b imm) : (loadVar 32 ⟨n, 0, none⟩).run Tryd.prog w = .ok (instV op d a b imm) w := by
  refine run_loadVar_mid w n 0 32 [.int .i64 op, .int .i64 d, .int .i64 a, .int .i64 b, .int .i64 imm] _ ?_ Tryd.underlying32 rfl (by kernel_rfl)
  intro j v hv
  obtain ⟨h0, h1, h2, h3, h4⟩ := h
  rw [Nat.zero_add]
  have hj : j < 5 := (List.getElem?_eq_some_iff.1 hv).1
  have hc : j = 0 ∨ j = 1 ∨ j = 2 ∨ j = 3 ∨ j = 4 := by omega
  rcases hc with rfl | rfl | rfl | rfl | rfl <;> simp at hv <;> subst hv <;> assumption
theorem box_set5 {w : World} {n : Nat} {op d a b imm : Int} (h : Box w n op d a b imm) (o' d' a' b' i' : Int) :
    Box (((((w.setCell ⟨n, 0, none⟩ (.int .i64 o')).setCell ⟨n, 1, none⟩ (.int .i64 d')).setCell ⟨n, 2, none⟩ (.int .i64 a')).setCell ⟨n, 3, none⟩ (.int .i64 b')).setCell ⟨n, 4, none⟩ (.int .i64 i')) n o' d' a' b' i' := by
  obtain ⟨h0, h1, h2, h3, h4⟩ := h
  refine ⟨?_, ?_, ?_, ?_, ?_⟩ <;> simp [World.cell?_setCell_other, World.cell?_setCell_same', *]
/-- What the words so far have said. -/
def nAt (ts : List (List UInt8)) (k j : Nat) : Int := if j < k then nW (ts.getD j []) else 0
def mAt (ts : List (List UInt8)) (k j : Nat) : Int := if j < k then mW (ts.getD j []) else 0
def rAt (ts : List (List UInt8)) (k j : Nat) : Bool := if j < k then regW (ts.getD j []) else false
structure Said (w : World) (N0 g N1 : Nat) (w0 : List UInt8) (ts : List (List UInt8)) (k : Nat) (wr : World) : Prop where
  ns : ∀ j, j < 3 → wr.cell? ⟨N1, j, none⟩ = some (.int .i64 (nAt ts k j)) ∧ wr.frozen? ⟨N1, j, none⟩ = false
  ms : ∀ j, j < 3 → wr.cell? ⟨N1 + 1, j, none⟩ = some (.int .i64 (mAt ts k j)) ∧ wr.frozen? ⟨N1 + 1, j, none⟩ = false
  rs : ∀ j, j < 3 → wr.cell? ⟨N1 + 1 + 1, j, none⟩ = some (.bool (rAt ts k j)) ∧ wr.frozen? ⟨N1 + 1 + 1, j, none⟩ = false
  box : Wbox wr N0 0 0 0 0 0
  words : ∀ j x, (w0 :: ts)[j]? = some x → wr.cell? ⟨g, j, none⟩ = some (.string (str x))
  below : Below w.heap.size w wr
  size : N1 + 1 + 1 < wr.heap.size
  lo0 : N0 < N1
  log : g < N1
  low : w.heap.size ≤ N0
theorem set_far {w : World} {n m i j : Nat} {v : Value} (h : n ≠ m) : (w.setCell ⟨m, i, none⟩ v).cell? ⟨n, j, none⟩ = w.cell? ⟨n, j, none⟩ := World.cell?_setCell_other _ _ _ _ (fun e => h (by injection e with e1; exact e1.symm))
theorem set_near {w : World} {n i j : Nat} {v : Value} (h : j ≠ i) : (w.setCell ⟨n, i, none⟩ v).cell? ⟨n, j, none⟩ = w.cell? ⟨n, j, none⟩ := World.cell?_setCell_other _ _ _ _ (fun e => h (by injection e with e1 e2; exact e2.symm))
theorem nAt_step {ts : List (List UInt8)} {k j : Nat} (h : j ≠ k) : nAt ts (k + 1) j = nAt ts k j := by unfold nAt; by_cases h1 : j < k <;> simp [h1] <;> omega
theorem mAt_step {ts : List (List UInt8)} {k j : Nat} (h : j ≠ k) : mAt ts (k + 1) j = mAt ts k j := by unfold mAt; by_cases h1 : j < k <;> simp [h1] <;> omega
theorem rAt_step {ts : List (List UInt8)} {k j : Nat} (h : j ≠ k) : rAt ts (k + 1) j = rAt ts k j := by unfold rAt; by_cases h1 : j < k <;> simp [h1] <;> omega
theorem nAt_at (ts : List (List UInt8)) (k : Nat) : nAt ts (k + 1) k = nW (ts.getD k []) := by unfold nAt; rw [if_pos (by omega)]
theorem mAt_at (ts : List (List UInt8)) (k : Nat) : mAt ts (k + 1) k = mW (ts.getD k []) := by unfold mAt; rw [if_pos (by omega)]
theorem rAt_at (ts : List (List UInt8)) (k : Nat) : rAt ts (k + 1) k = regW (ts.getD k []) := by unfold rAt; rw [if_pos (by omega)]
theorem nAt_no (ts : List (List UInt8)) (k : Nat) : nAt ts k k = 0 := by unfold nAt; rw [if_neg (by omega)]
theorem mAt_no (ts : List (List UInt8)) (k : Nat) : mAt ts k k = 0 := by unfold mAt; rw [if_neg (by omega)]
theorem rAt_no (ts : List (List UInt8)) (k : Nat) : rAt ts k k = false := by unfold rAt; rw [if_neg (by omega)]
theorem mW_reg {t : List UInt8} (h : regW t = true) : mW t = 0 := by unfold mW; rw [if_pos h]
theorem nW_num {t : List UInt8} (h : regW t = false) : nW t = 0 := by unfold nW; rw [if_neg (by rw [h]; simp)]
theorem mW_num {t : List UInt8} (h : regW t = false) : mW t = (valueL t).1 := by unfold mW; rw [if_neg (by rw [h]; simp)]
theorem Said.reg {w wr : World} {N0 g N1 k : Nat} {w0 : List UInt8} {ts : List (List UInt8)} (h : Said w N0 g N1 w0 ts k wr) (hk : k < 3) (hr : regW (ts.getD k []) = true) :
    Said w N0 g N1 w0 ts (k + 1) ((wr.setCell ⟨N1, k, none⟩ (.int .i64 (nW (ts.getD k [])))).setCell ⟨N1 + 1 + 1, k, none⟩ (.bool true)) := by
  have l0 := h.lo0
  have lg := h.log
  have ll := h.low
  refine ⟨fun j hj => ⟨?_, by simpa using (h.ns j hj).2⟩, fun j hj => ⟨?_, by simpa using (h.ms j hj).2⟩, fun j hj => ⟨?_, by simpa using (h.rs j hj).2⟩, ?_, fun j x hx => ?_, ?_, by simpa using h.size, l0, lg, ll⟩
  · rw [set_far (by omega)]
    by_cases e : j = k
    · subst e
      rw [World.cell?_setCell_same' _ _ _ (by rw [(h.ns j hj).1]; rfl)]
      rw [nAt_at]
    · rw [set_near e, (h.ns j hj).1, nAt_step e]
  · rw [set_far (by omega), set_far (by omega), (h.ms j hj).1]
    by_cases e : j = k
    · subst e; rw [mAt_at, mAt_no, mW_reg hr]
    · rw [mAt_step e]
  · by_cases e : j = k
    · subst e
      rw [World.cell?_setCell_same' _ _ _ (by rw [set_far (by omega), (h.rs j hj).1]; rfl)]
      rw [rAt_at, hr]
    · rw [set_near e, set_far (by omega), (h.rs j hj).1, rAt_step e]
  · exact h.box.below (B := N1) (((Below.refl N1 wr).setCell (Nat.le_refl _) _).setCell (by show N1 ≤ N1 + 1 + 1; omega) _) l0
  · rw [set_far (by omega), set_far (by omega)]; exact h.words j x hx
  · exact (h.below.setCell (by show w.heap.size ≤ N1; omega) _).setCell (by show w.heap.size ≤ N1 + 1 + 1; omega) _
theorem Said.num {w wr : World} {N0 g N1 k : Nat} {w0 : List UInt8} {ts : List (List UInt8)} (h : Said w N0 g N1 w0 ts k wr) (hk : k < 3) (hr : regW (ts.getD k []) = false) :
    Said w N0 g N1 w0 ts (k + 1) (wr.setCell ⟨N1 + 1, k, none⟩ (.int .i64 (valueL (ts.getD k [])).1)) := by
  have l0 := h.lo0
  have lg := h.log
  have ll := h.low
  refine ⟨fun j hj => ⟨?_, by simpa using (h.ns j hj).2⟩, fun j hj => ⟨?_, by simpa using (h.ms j hj).2⟩, fun j hj => ⟨?_, by simpa using (h.rs j hj).2⟩, ?_, fun j x hx => ?_, ?_, by simpa using h.size, l0, lg, ll⟩
  · rw [set_far (by omega), (h.ns j hj).1]
    by_cases e : j = k
    · subst e; rw [nAt_at, nAt_no, nW_num hr]
    · rw [nAt_step e]
  · by_cases e : j = k
    · subst e
      rw [World.cell?_setCell_same' _ _ _ (by rw [(h.ms j hj).1]; rfl)]
      rw [mAt_at, mW_num hr]
    · rw [set_near e, (h.ms j hj).1, mAt_step e]
  · rw [set_far (by omega), (h.rs j hj).1]
    by_cases e : j = k
    · subst e; rw [rAt_at, rAt_no, hr]
    · rw [rAt_step e]
  · exact h.box.below (B := N1) ((Below.refl N1 wr).setCell (by show N1 ≤ N1 + 1; omega) _) l0
  · rw [set_far (by omega)]; exact h.words j x hx
  · exact h.below.setCell (by show w.heap.size ≤ N1 + 1; omega) _
theorem cells3 {W : World} {n : Nat} {c : Array Value} {t : TypeId} (hh : W.heap[n]? = some (.cells c t)) (j : Nat) : W.cell? ⟨n, j, none⟩ = c[j]? ∧ W.frozen? ⟨n, j, none⟩ = false := by simp [World.cell?, World.frozen?, hh]
/-- The three rows as they are made. -/
theorem said_new {w w2 : World} {N0 g : Nat} {w0 : List UInt8} {ts : List (List UInt8)} (hb : Wbox w2 N0 0 0 0 0 0) (hw : ∀ j x, (w0 :: ts)[j]? = some x → w2.cell? ⟨g, j, none⟩ = some (.string (str x))) (hB : Below w.heap.size w w2) (l0 : N0 < w2.heap.size) (lg : g < w2.heap.size) (ll : w.heap.size ≤ N0) :
    Said w N0 g w2.heap.size w0 ts 0 (((w2.alloc (.cells #[.int .i64 0, .int .i64 0, .int .i64 0] 3)).alloc (.cells #[.int .i64 0, .int .i64 0, .int .i64 0] 2)).alloc (.cells #[.bool false, .bool false, .bool false] 4)) := by
  have hbel : Below w2.heap.size w2 (((w2.alloc (.cells #[.int .i64 0, .int .i64 0, .int .i64 0] 3)).alloc (.cells #[.int .i64 0, .int .i64 0, .int .i64 0] 2)).alloc (.cells #[.bool false, .bool false, .bool false] 4)) := by go_grown
  have tri : ∀ j, j < 3 → j = 0 ∨ j = 1 ∨ j = 2 := fun j hj => by omega
  refine ⟨fun j hj => ?_, fun j hj => ?_, fun j hj => ?_, hb.below hbel l0, fun j x hx => (hbel.cell (p := ⟨g, j, none⟩) lg).trans (hw j x hx), hB.trans (hbel.mono hB.size), by simp, l0, lg, ll⟩
  · have hh : (((w2.alloc (.cells #[.int .i64 0, .int .i64 0, .int .i64 0] 3)).alloc (.cells #[.int .i64 0, .int .i64 0, .int .i64 0] 2)).alloc (.cells #[.bool false, .bool false, .bool false] 4)).heap[w2.heap.size]? = some (.cells #[.int .i64 0, .int .i64 0, .int .i64 0] 3) := by
      show (((w2.heap.push _).push _).push _)[w2.heap.size]? = _
      rw [Array.getElem?_push, Array.getElem?_push, Array.getElem?_push]
      simp only [Array.size_push]
      rw [if_neg (by omega), if_neg (by omega), if_pos trivial]
    obtain ⟨k1, k2⟩ := cells3 hh j
    refine ⟨?_, k2⟩
    rw [k1]
    rcases tri j hj with rfl | rfl | rfl <;> simp [nAt]
  · have hh : (((w2.alloc (.cells #[.int .i64 0, .int .i64 0, .int .i64 0] 3)).alloc (.cells #[.int .i64 0, .int .i64 0, .int .i64 0] 2)).alloc (.cells #[.bool false, .bool false, .bool false] 4)).heap[w2.heap.size + 1]? = some (.cells #[.int .i64 0, .int .i64 0, .int .i64 0] 2) := by
      show (((w2.heap.push _).push _).push _)[w2.heap.size + 1]? = _
      rw [Array.getElem?_push, Array.getElem?_push]
      simp only [Array.size_push]
      rw [if_neg (by omega), if_pos trivial]
    obtain ⟨k1, k2⟩ := cells3 hh j
    refine ⟨?_, k2⟩
    rw [k1]
    rcases tri j hj with rfl | rfl | rfl <;> simp [mAt]
  · have hh : (((w2.alloc (.cells #[.int .i64 0, .int .i64 0, .int .i64 0] 3)).alloc (.cells #[.int .i64 0, .int .i64 0, .int .i64 0] 2)).alloc (.cells #[.bool false, .bool false, .bool false] 4)).heap[w2.heap.size + 1 + 1]? = some (.cells #[.bool false, .bool false, .bool false] 4) := by
      show (((w2.heap.push _).push _).push _)[w2.heap.size + 1 + 1]? = _
      rw [Array.getElem?_push]
      simp only [Array.size_push]
      rw [if_pos trivial]
    obtain ⟨k1, k2⟩ := cells3 hh j
    refine ⟨?_, k2⟩
    rw [k1]
    rcases tri j hj with rfl | rfl | rfl <;> simp [rAt]
end Go.Proofs.YteccmagbebghaaaDoor
