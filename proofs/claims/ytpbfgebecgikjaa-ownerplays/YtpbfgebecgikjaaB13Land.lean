
/-
  The landed book of layer 13: New, Len, Cap, find, value. Condition: the book lies where the pointer says, its row is the call's own.
-/
import Derived.Test.YtpbfgebecgikjaaTk
import Derived.Test.YtpbfgebecgikjaaB13Lib
namespace Go.Proofs.Ytpbfgebecgikjaa
open Go.RowKit
set_option linter.unusedVariables false
set_option linter.unusedSimpArgs false
set_option maxRecDepth 100000

/-- The landed book, at a block. -/
structure Lb (w : World) (B b cap : Nat) (v : Value) (L : List Pp) : Prop where
  hp : Hp w b 114 [.int .i64 cap, v]
  row : w.ownsRow B 80 2 v L.length (flatG ppC L)
theorem Lb.below {w w' : World} {B b cap : Nat} {v : Value} {L : List Pp} (h : Lb w B b cap v L) (hb : Below w.heap.size w w') : Lb w' B b cap v L := ⟨h.hp.below hb h.hp.lt, own_below h.row hb (Nat.le_refl _)⟩
theorem Lb.chg {w w' : World} {B b cap : Nat} {v : Value} {L : List Pp} {S : Nat → Prop} (h : Lb w B b cap v L) (hc : Chg w w' S) (h1 : ¬ S b) (h2 : ∀ k, v.ownBlock = some k → ¬ S k) : Lb w' B b cap v L := ⟨h.hp.chg hc h1, own_chg h.row hc h2⟩
theorem Lb.drew {w : World} {B b cap : Nat} {v : Value} {L : List Pp} (h : Lb w B b cap v L) : Lb w.drew B b cap v L := ⟨h.hp.drew, h.row⟩
theorem Lb.apart {w : World} {B b cap : Nat} {v : Value} {L : List Pp} (h : Lb w B b cap v L) : v.ownBlock ≠ some b := own_type10 h.row h.hp (by decide)
theorem lnew_ok (n : Nat) (h1 : 1 ≤ n) (h2 : n ≤ 16) (w : World) : Calls Try.prog 38 #[.int .i64 n] w fun e w' => e = .returned (.tuple #[.pointer (some ⟨w.heap.size, 0, none⟩), .int .i64 0]) ∧ Hp w' w.heap.size 114 [.int .i64 n, .slice none 0 0] ∧ Below w.heap.size w w' ∧ w'.heap.size = w.heap.size + 1 := by
  have h1I : ¬ (n : Int) < 1 := by omega
  have h2I : ¬ (16 : Int) < n := by omega
  go_enter Try.func38, Try.ntmps38
  go_wp2
  go_ret2
  exact ⟨rfl, Hp.new w _ _, by go_grown, by simp⟩
theorem lnew_no (n : Int) (h : n < 1 ∨ 16 < n) (w : World) : Calls Try.prog 38 #[.int .i64 n] w fun e w' => e = .returned (.tuple #[.pointer none, .int .i64 2]) ∧ w = w' := by
  rcases h with h | h
  · go_enter Try.func38, Try.ntmps38
    go_wp2
    go_ret2
    exact ⟨rfl, rfl⟩
  · have h1 : ¬ n < 1 := by omega
    go_enter Try.func38, Try.ntmps38
    go_wp2
    go_ret2
    exact ⟨rfl, rfl⟩
theorem Lb.new {w w' : World} {n B : Nat} (h : Hp w' w.heap.size 114 [.int .i64 n, .slice none 0 0]) : Lb w' B w.heap.size n (.slice none 0 0) [] := ⟨h, World.ownsRow_nil w' B _ _⟩
theorem lvalue_no {w : World} {b : Nat} (i : Int) : Calls Try.prog 63 #[.pointer (some ⟨b, 0, none⟩), .int .i64 i, .bool false] w fun e w' => e = .returned (.int .u64 0) ∧ w = w' := by
  go_enter Try.func63, Try.ntmps63
  go_wp2
  go_ret
  exact ⟨rfl, rfl⟩
theorem lvalue_yes {w : World} {B b cap : Nat} {v : Value} {L : List Pp} (h : Lb w B b cap v L) {i : Nat} (hi : i < L.length) : Calls Try.prog 63 #[.pointer (some ⟨b, 0, none⟩), .int .i64 i, .bool true] w fun e w' => e = .returned (.int .u64 (L.getD i Pp.nil).v) ∧ w = w' := by
  obtain ⟨g, c, rfl, hgB, hgw, hgc, hcm, hat⟩ := own_atG ppC_len Pp.nil h.row (by omega)
  have d1 := (hat i hi 1 (by omega)).1
  simp only [List.getElem?_cons_zero, List.getElem?_cons_succ] at d1
  have c1 := h.hp.cell (j := 1) rfl
  have hiI : (i : Int) < L.length := by omega
  generalize (L.getD i Pp.nil).v = x at d1 ⊢
  clear hat h
  go_enter Try.func63, Try.ntmps63
  go_wp2
  go_ret
  exact ⟨rfl, rfl⟩
set_option maxHeartbeats 4000000 in
theorem lfind_any {w : World} {B b cap : Nat} {v : Value} {L : List Pp} (key : Int) (h : Lb w B b cap v L) (hl : L.length ≤ 1000) {at' : Nat} {fo : Bool} (HA : Hid (findS key L = at')) (HF : Hid (hitS key L = fo)) :
    Calls Try.prog 62 #[.pointer (some ⟨b, 0, none⟩), .int .u64 key] w fun e w' => e = .returned (.tuple #[.int .i64 at', .bool fo]) ∧ Below w.heap.size w w' := by
  have hs := own_seesG ppC_len Pp.nil h.row
  have hblt := h.hp.lt
  have HC1 : Hid (∀ wr, Below w.heap.size w wr → wr.cell? ⟨b, 1, none⟩ = some v) := fun wr hb => (h.hp.below hb hblt).cell (j := 1) rfl
  have HSS : Hid (∀ wr, Below w.heap.size w wr → SeesG ppC 2 Pp.nil wr v L) := fun wr hb => hs.below hb (Nat.le_refl _)
  have c1 := h.hp.cell (j := 1) rfl
  obtain ⟨a, c, rfl, hc, hm, hn0, hcell⟩ := hs
  unfold maxLen at hm
  clear hcell hn0 h
  go_enter Try.func62, Try.ntmps62
  go_wp2
  go_loopw [13] (fun i wr => ∃ j : Nat, j ≤ L.length ∧ i = .int .i64 j ∧ Hid (∀ i, i < j → (L.getD i Pp.nil).k < key) ∧ Below w.heap.size w wr) (fun i _ => L.length - (intOf i).toNat)
  case atStart => exact ⟨0, by omega, rfl, fun i hi => by omega, Below.refl _ _⟩
  case round =>
    obtain ⟨j, hj, rfl, HJ, hbr⟩ := hrel
    rename_i wr _
    have hzr := hbr.size
    by_cases hlt : j < L.length
    · have hltI : (j : Int) < L.length := by omega
      obtain ⟨a', c', ev, _, _, _, hcell⟩ := HSS.out _ hbr
      simp only [Value.slice.injEq, true_and] at ev
      obtain ⟨rfl, rfl⟩ := ev
      obtain ⟨g, off, rfl, hg, hat⟩ := hcell (fun e => by rw [e] at hlt; simp at hlt)
      have d0 := hat j hlt 0 (by omega)
      have d1 := hat j hlt 1 (by omega)
      simp only [List.getElem?_cons_zero, List.getElem?_cons_succ, Nat.add_zero] at d0 d1
      clear hat hcell
      obtain ⟨x, HX⟩ : ∃ x, Hid ((L.getD j Pp.nil).k = x) := ⟨_, rfl⟩
      obtain ⟨y, HY⟩ : ∃ y, Hid ((L.getD j Pp.nil).v = y) := ⟨_, rfl⟩
      rw [HX.out] at d0
      rw [HY.out] at d1
      by_cases hx : key ≤ x
      · have HA2 : Hid (at' = j) := show _ = _ from HA.out.symm.trans (findS_is hlt (by rw [HX.out]; exact hx) HJ.out)
        have HF2 : Hid ((x == key) = fo) := by
          show _ = _
          rw [← HF.out, hitS, HA.out, HA2.out, HX.out, decide_eq_true hlt, Bool.true_and]
          rfl
        have d5 : (wr.alloc (.cells #[.int .u64 x, .int .u64 y] 80)).drew.cell? ⟨wr.heap.size, 0, none⟩ = some (.int .u64 x) := (Hp.new wr [.int .u64 x, .int .u64 y] 80).drew.cell (j := 0) rfl
        go_wp2
        refine wp_region_held_drew (S := fun w' => w'.cell? ⟨wr.heap.size, 0, none⟩ = some (.int .u64 x)) (by kernel_rfl) d5 (fun hHeld => ?_)
        refine tkGo [0, 1, 2, 3, 4, 5, 6] ?_
        repeat (refine tkOne (v := ?_) rfl (by kernel_rfl) (by kernel_rfl) (by kernel_rfl) (fun _ _ _ h => h) (by assumption) (by rfl) ?_ ?_; rotate_left; (intro wy hSw; (try dsimp only at hSw); go_simp; (first | done | with_reducible rfl)); try simp only [Act.put, List.getElem_toArray, List.getElem_cons_zero, List.getElem_cons_succ, List.setIfInBounds_toArray, List.set_cons_zero, List.set_cons_succ])
        refine tkEnd ?_
        refine wpAnyH_done (by kernel_rfl) ?_ _
        go_wp2
        go_ret2
        exact ⟨by rw [HA2.out, ← HF2.out]; rfl, below_drG (hbr.alloc (by omega) _)⟩
      · have HJ2 : Hid (∀ i, i < j + 1 → (L.getD i Pp.nil).k < key) := fun i hi => by
          rcases Nat.lt_succ_iff_lt_or_eq.1 hi with g | g
          · exact HJ.out i g
          · rw [g, HX.out]; omega
        go_wp2
        exact ⟨⟨j + 1, by omega, by go_num, HJ2.out, hbr.alloc (by omega) _⟩, by simp [intOf]; omega⟩
    · have hltI : ¬ (j : Int) < L.length := by omega
      have HA2 : Hid (at' = L.length) := show _ = _ from HA.out.symm.trans (findS_none (fun i hi => HJ.out i (by omega)))
      have HF2 : Hid (fo = false) := by
        show _ = _
        rw [← HF.out, hitS, HA.out, HA2.out, decide_eq_false (by omega), Bool.false_and]
      have c2 := HC1.out _ hbr
      go_wp2
      go_ret2
      exact ⟨by rw [HA2.out, HF2.out]; rfl, hbr⟩
end Go.Proofs.Ytpbfgebecgikjaa
