/-
  The law SigsNames, walked: it answers true. Condition: the package-level variable 'names' reads as it is laid.
-/
import Derived.Test.YtpgkjoahngfgnaaDoorT8Alike
import Derived.Test.YtpgkjoahngfgnaaDoorT8More
namespace Go.Proofs.YtpgkjoahngfgnaaDoor
open Go.RowKit
set_option linter.unusedVariables false
set_option maxRecDepth 100000

/-- With the answers as letters. -/
theorem ofind_as {s : ByteArray} {k : Int} {b : Bool} (h : Hid (findL s = (k, b))) (w : World) (hn : Named w) : Calls Tryd.prog 9 #[.string s] w fun e w' => e = .returned (.tuple #[.int .i64 k, .bool b]) ∧ w = w' := by
  have := ofind_any s w hn; rw [h.out] at this; exact this
theorem rfind_as {s : ByteArray} {k : Int} {b : Bool} (h : Hid (findL s = (k, b))) (w : World) : Calls Tryd.prog 10 #[.string s] w fun e w' => e = .returned (.tuple #[.int .i64 k, .bool b]) ∧ Below w.heap.size w w' := by
  have := rfind_any s w; rw [h.out] at this; exact this
theorem result_as {h : Int} {k lo hi m : Int} {b : Bool} (hr : Hid (resL h = (⟨k, lo, hi, m⟩, b))) (w : World) : Calls Tryd.prog 11 #[.int .i64 h] w fun e w' => e = .returned (.tuple #[.agg #[.int .i64 k, .int .u64 lo, .int .u64 hi, .int .i64 m], .bool b]) ∧ Below w.heap.size w w' := by
  have := result_any h w; rw [hr.out] at this; exact this
theorem rresult_as {h : Int} {k lo hi m : Int} {b : Bool} (hr : Hid (resL h = (⟨k, lo, hi, m⟩, b))) (w : World) : Calls Tryd.prog 12 #[.int .i64 h] w fun e w' => e = .returned (.tuple #[.agg #[.int .i64 k, .int .u64 lo, .int .u64 hi, .int .i64 m], .bool b]) ∧ Below w.heap.size w w' := by
  have := rresult_any h w; rw [hr.out] at this; exact this
theorem lasks_as {h k : Int} {b : Bool} (hr : Hid (asksL h = (k, b))) (w : World) : Calls Tryd.prog 13 #[.int .i64 h] w fun e w' => e = .returned (.tuple #[.int .i64 k, .bool b]) ∧ w = w' := by
  have := lasks_any h w; rw [hr.out] at this; exact this
theorem rasks_as {h k : Int} {b : Bool} (hr : Hid (asksL h = (k, b))) (w : World) : Calls Tryd.prog 14 #[.int .i64 h] w fun e w' => e = .returned (.tuple #[.int .i64 k, .bool b]) ∧ w = w' := by
  have := rasks_any h w; rw [hr.out] at this; exact this
theorem oname_as {h : Int} {t : ByteArray} (ht : Hid (t = nameF h)) (w : World) (hn : Named w) : Calls Tryd.prog 15 #[.int .i64 h] w fun e w' => e = .returned (.string t) ∧ w = w' := by
  rw [ht.out]; exact oname_any h w hn

/-- Two boxes of types, a call between them. -/
theorem two_boxes {w w3 w4 : World} (t u : Ty) (hB3 : Below w.heap.size w w3) (hb4 : Below (w3.alloc (tyO t)).heap.size (w3.alloc (tyO t)) w4) :
    Below w.heap.size w (w4.alloc (tyO u)) ∧ At2 (w4.alloc (tyO u)) w3.heap.size 0 t w4.heap.size 0 u ∧ w3.heap.size < (w4.alloc (tyO u)).heap.size ∧ w4.heap.size < (w4.alloc (tyO u)).heap.size := by
  have hs := hb4.size
  have hz : w3.heap.size + 1 = (w3.alloc (tyO t)).heap.size := by simp
  have h3 := hB3.size
  have hB4 : Below w.heap.size w w4 := (hB3.alloc h3 _).trans (hb4.mono (by omega))
  have hA : AtT w4 w3.heap.size 0 t := AtT.below (w := w3.alloc (tyO t)) ⟨by go_cell, by go_cell, by go_cell, by go_cell⟩ hb4 (by omega)
  refine ⟨hB4.alloc (by omega) _, ⟨AtT.below hA ((Below.refl w4.heap.size w4).alloc (Nat.le_refl _) _) (by omega), ?_, ?_, ?_, ?_⟩, by simp; omega, by simp⟩
  all_goals go_cell
set_option maxHeartbeats 1600000 in
theorem names_walk (h : Int) (s : ByteArray) (w : World) (_ : -9223372036854775808 ≤ h ∧ h ≤ 9223372036854775807) (hn : Named w) : Calls Tryd.prog 3 #[.int .i64 h, .string s] w fun e w' => e = .returned (.bool true) ∧ Below w.heap.size w w' := by
  have HN : Hid (Named w) := hn
  have h0 := hn.1
  clear hn
  obtain ⟨fk, fb, HF⟩ : ∃ k b, Hid (findL s = (k, b)) := ⟨_, _, rfl⟩
  obtain ⟨rk, rl, rh, rm, rbb, HR⟩ : ∃ k lo hi m b, Hid (resL h = (⟨k, lo, hi, m⟩, b)) := ⟨_, _, _, _, _, rfl⟩
  obtain ⟨ak, ab, HA⟩ : ∃ k b, Hid (asksL h = (k, b)) := ⟨_, _, rfl⟩
  obtain ⟨t, HT⟩ : ∃ t, Hid (t = nameF h) := ⟨_, rfl⟩
  go_enter Tryd.func3, Tryd.ntmps3
  go_wp2_with (first
    | (go_at_call 8; go_must (refine (awake_any _ HN.out).mono ?_); rintro e w1 ⟨rfl, hB1⟩; go_must (have HN1 : Hid (Named w1) := HN.out.below hB1 h0))
    | (go_at_call 9; go_must (refine (ofind_as HF _ HN1.out).mono ?_); rintro e w' ⟨rfl, rfl⟩)
    | (go_at_call 10; go_must (refine (rfind_as HF _).mono ?_); rintro e w2 ⟨rfl, hb2⟩; go_must (have hB2 := hB1.trans (hb2.mono hB1.size); clear hb2))
    | (go_at_call 11; go_must (refine (result_as HR _).mono ?_); rintro e w3 ⟨rfl, hb3⟩; go_must (have hB3 := hB2.trans (hb3.mono hB2.size); clear hb3))
    | (go_at_call 12; go_must (refine (rresult_as HR _).mono ?_); rintro e w4 ⟨rfl, hb4⟩; go_must (obtain ⟨hBW, hAt, hl3, hl4⟩ := two_boxes ⟨rk, rl, rh, rm⟩ ⟨rk, rl, rh, rm⟩ hB3 hb4; clear hb4))
    | (go_at_call 13; go_must (refine (lasks_as HA _).mono ?_); rintro e w' ⟨rfl, rfl⟩)
    | (go_at_call 14; go_must (refine (rasks_as HA _).mono ?_); rintro e w' ⟨rfl, rfl⟩)
    | (go_at_call 15; go_must (refine (oname_as HT _ (HN.out.below hBW h0)).mono ?_); rintro e w' ⟨rfl, rfl⟩)
    | (go_at_call 16; go_must (refine (rname_as HT _).mono ?_); rintro e w5 ⟨rfl, hb5⟩; go_must (have hB5 := hBW.trans (hb5.mono hBW.size); obtain ⟨⟨d0, d1, d2, d3⟩, e0, e1, e2, e3⟩ := At2.below hAt hb5 hl3 hl4; simp only [Nat.zero_add] at d0 d1 d2 d3 e0 e1 e2 e3; clear hb5 hAt)))
  go_ret
  exact ⟨retb (by simp), hB5⟩
end Go.Proofs.YtpgkjoahngfgnaaDoor
