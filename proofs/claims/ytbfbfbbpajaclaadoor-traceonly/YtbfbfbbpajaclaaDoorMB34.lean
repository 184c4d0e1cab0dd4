
/-
  What the landed lay does: a field set out of a word's digits. Conditions: the listed variables read as they are laid; the entry lies in a block of its own, behind them; the letter is one of the twenty.
-/
import Derived.Test.YtbfbfbbpajaclaaDoorMB33
import Derived.Test.YtbfbfbbpajaclaaDoorMB19
namespace Go.Proofs.YtbfbfbbpajaclaaDoor
open Go.RowKit
set_option linter.unusedVariables false
set_option linter.unusedSimpArgs false
set_option maxRecDepth 100000
/-- What lay leaves. -/
def LayR (e : En) (c : Nat) (l : List UInt8) (bk : Nat) (w w' : World) : Prop := ∃ k n, Hid (Got l k n) ∧ Hid (Hp w' bk 36 (enC (putE e c k n))) ∧ Hid (Chg w w' (fun x => x = bk))
theorem lay_fin {e : En} {c bk j : Nat} {l : List UInt8} {k n : Int} {w w1 w2 : World} {v : Value} (h1 : (-9223372036854775808 ≤ k ∧ k ≤ 9223372036854775807) ∧ ∀ x : Int, -9223372036854775808 ≤ x → x ≤ 9223372036854775807 → l = numL x → k = x) (h2 : (0 ≤ n ∧ n ≤ 18446744073709551615) ∧ ∀ u : Nat, u ≤ 18446744073709551615 → l = digF 20 u → n = u)
    (hb1 : Below w.heap.size w w1) (hb2 : Below w1.heap.size w1 w2) (hp : Hp w2 bk 36 (enC e)) (he : (enC e).set j v = enC (putE e c k n)) : LayR e c l bk w (w2.setCell ⟨bk, j, none⟩ v) := by
  have h3 := hp.set j v
  rw [he] at h3
  exact ⟨k, n, ⟨h1.1, h2.1, h1.2, h2.2⟩, h3, ((Chg.of_below hb1).trans (Chg.of_below hb2) (fun _ _ x => x)).trans (Chg.set w2 bk j v) (fun _ _ x => x)⟩
set_option maxHeartbeats 1600000 in
theorem lay116 (e : En) (bk : Nat) (l : List UInt8) (w : World) (h : Laid w) (hp : Hp w bk 36 (enC e)) (hl : l.length ≤ 140737488355328) : Calls Tryd.prog 44 #[.pointer (some ⟨bk, 0, none⟩), .int .u8 116, .string (str l)] w fun r w' => r = .returned (.tuple #[]) ∧ LayR e 116 l bk w w' := by
  have HL : Hid (Laid w) := h
  have HP : Hid (Hp w bk 36 (enC e)) := hp
  clear h hp
  go_enter Tryd.func44, Tryd.ntmps44
  go_wp2_with (first
    | (go_at_call 58; go_must (refine (atoi_any l _ HL.out hl).mono ?_); rintro e1 w1 ⟨⟨k, v1, rfl, HK⟩, hb1⟩; go_must (have HL1 : Hid (Laid w1) := laid_keeps _ _ HL.out hb1; have HP1 : Hid (Hp w1 bk 36 (enC e)) := HP.out.below hb1 HP.out.lt))
    | (go_at_call 59; go_must (refine (pu_any l _ HL1.out hl).mono ?_); rintro e1 w2 ⟨⟨n, v2, rfl, HN⟩, hb2⟩; go_must (have HP2 : Hid (Hp w2 bk 36 (enC e)) := HP1.out.below hb2 HP1.out.lt; have c1 := HP2.out.cell (j := 1) rfl; have f1 := HP2.out.frozen 1)))
  exact bodyPost_end (results_none rfl _ _ _) rfl ⟨rfl, lay_fin (v := .int .i64 k) HK.out HN.out hb1 hb2 HP2.out rfl⟩
set_option maxHeartbeats 1600000 in
theorem lay102 (e : En) (bk : Nat) (l : List UInt8) (w : World) (h : Laid w) (hp : Hp w bk 36 (enC e)) (hl : l.length ≤ 140737488355328) : Calls Tryd.prog 44 #[.pointer (some ⟨bk, 0, none⟩), .int .u8 102, .string (str l)] w fun r w' => r = .returned (.tuple #[]) ∧ LayR e 102 l bk w w' := by
  have HL : Hid (Laid w) := h
  have HP : Hid (Hp w bk 36 (enC e)) := hp
  clear h hp
  go_enter Tryd.func44, Tryd.ntmps44
  go_wp2_with (first
    | (go_at_call 58; go_must (refine (atoi_any l _ HL.out hl).mono ?_); rintro e1 w1 ⟨⟨k, v1, rfl, HK⟩, hb1⟩; go_must (have HL1 : Hid (Laid w1) := laid_keeps _ _ HL.out hb1; have HP1 : Hid (Hp w1 bk 36 (enC e)) := HP.out.below hb1 HP.out.lt))
    | (go_at_call 59; go_must (refine (pu_any l _ HL1.out hl).mono ?_); rintro e1 w2 ⟨⟨n, v2, rfl, HN⟩, hb2⟩; go_must (have HP2 : Hid (Hp w2 bk 36 (enC e)) := HP1.out.below hb2 HP1.out.lt; have c1 := HP2.out.cell (j := 2) rfl; have f1 := HP2.out.frozen 2)))
  exact bodyPost_end (results_none rfl _ _ _) rfl ⟨rfl, lay_fin (v := .int .i64 k) HK.out HN.out hb1 hb2 HP2.out rfl⟩
set_option maxHeartbeats 1600000 in
theorem lay99 (e : En) (bk : Nat) (l : List UInt8) (w : World) (h : Laid w) (hp : Hp w bk 36 (enC e)) (hl : l.length ≤ 140737488355328) : Calls Tryd.prog 44 #[.pointer (some ⟨bk, 0, none⟩), .int .u8 99, .string (str l)] w fun r w' => r = .returned (.tuple #[]) ∧ LayR e 99 l bk w w' := by
  have HL : Hid (Laid w) := h
  have HP : Hid (Hp w bk 36 (enC e)) := hp
  clear h hp
  go_enter Tryd.func44, Tryd.ntmps44
  go_wp2_with (first
    | (go_at_call 58; go_must (refine (atoi_any l _ HL.out hl).mono ?_); rintro e1 w1 ⟨⟨k, v1, rfl, HK⟩, hb1⟩; go_must (have HL1 : Hid (Laid w1) := laid_keeps _ _ HL.out hb1; have HP1 : Hid (Hp w1 bk 36 (enC e)) := HP.out.below hb1 HP.out.lt))
    | (go_at_call 59; go_must (refine (pu_any l _ HL1.out hl).mono ?_); rintro e1 w2 ⟨⟨n, v2, rfl, HN⟩, hb2⟩; go_must (have HP2 : Hid (Hp w2 bk 36 (enC e)) := HP1.out.below hb2 HP1.out.lt; have c1 := HP2.out.cell (j := 3) rfl; have f1 := HP2.out.frozen 3)))
  exact bodyPost_end (results_none rfl _ _ _) rfl ⟨rfl, lay_fin (v := .int .i64 k) HK.out HN.out hb1 hb2 HP2.out rfl⟩
set_option maxHeartbeats 1600000 in
theorem lay103 (e : En) (bk : Nat) (l : List UInt8) (w : World) (h : Laid w) (hp : Hp w bk 36 (enC e)) (hl : l.length ≤ 140737488355328) : Calls Tryd.prog 44 #[.pointer (some ⟨bk, 0, none⟩), .int .u8 103, .string (str l)] w fun r w' => r = .returned (.tuple #[]) ∧ LayR e 103 l bk w w' := by
  have HL : Hid (Laid w) := h
  have HP : Hid (Hp w bk 36 (enC e)) := hp
  clear h hp
  go_enter Tryd.func44, Tryd.ntmps44
  go_wp2_with (first
    | (go_at_call 58; go_must (refine (atoi_any l _ HL.out hl).mono ?_); rintro e1 w1 ⟨⟨k, v1, rfl, HK⟩, hb1⟩; go_must (have HL1 : Hid (Laid w1) := laid_keeps _ _ HL.out hb1; have HP1 : Hid (Hp w1 bk 36 (enC e)) := HP.out.below hb1 HP.out.lt))
    | (go_at_call 59; go_must (refine (pu_any l _ HL1.out hl).mono ?_); rintro e1 w2 ⟨⟨n, v2, rfl, HN⟩, hb2⟩; go_must (have HP2 : Hid (Hp w2 bk 36 (enC e)) := HP1.out.below hb2 HP1.out.lt; have c1 := HP2.out.cell (j := 4) rfl; have f1 := HP2.out.frozen 4)))
  exact bodyPost_end (results_none rfl _ _ _) rfl ⟨rfl, lay_fin (v := .int .i64 k) HK.out HN.out hb1 hb2 HP2.out rfl⟩
set_option maxHeartbeats 1600000 in
theorem lay101 (e : En) (bk : Nat) (l : List UInt8) (w : World) (h : Laid w) (hp : Hp w bk 36 (enC e)) (hl : l.length ≤ 140737488355328) : Calls Tryd.prog 44 #[.pointer (some ⟨bk, 0, none⟩), .int .u8 101, .string (str l)] w fun r w' => r = .returned (.tuple #[]) ∧ LayR e 101 l bk w w' := by
  have HL : Hid (Laid w) := h
  have HP : Hid (Hp w bk 36 (enC e)) := hp
  clear h hp
  go_enter Tryd.func44, Tryd.ntmps44
  go_wp2_with (first
    | (go_at_call 58; go_must (refine (atoi_any l _ HL.out hl).mono ?_); rintro e1 w1 ⟨⟨k, v1, rfl, HK⟩, hb1⟩; go_must (have HL1 : Hid (Laid w1) := laid_keeps _ _ HL.out hb1; have HP1 : Hid (Hp w1 bk 36 (enC e)) := HP.out.below hb1 HP.out.lt))
    | (go_at_call 59; go_must (refine (pu_any l _ HL1.out hl).mono ?_); rintro e1 w2 ⟨⟨n, v2, rfl, HN⟩, hb2⟩; go_must (have HP2 : Hid (Hp w2 bk 36 (enC e)) := HP1.out.below hb2 HP1.out.lt; have c1 := HP2.out.cell (j := 5) rfl; have f1 := HP2.out.frozen 5)))
  exact bodyPost_end (results_none rfl _ _ _) rfl ⟨rfl, lay_fin (v := .int .i64 k) HK.out HN.out hb1 hb2 HP2.out rfl⟩
set_option maxHeartbeats 1600000 in
theorem lay104 (e : En) (bk : Nat) (l : List UInt8) (w : World) (h : Laid w) (hp : Hp w bk 36 (enC e)) (hl : l.length ≤ 140737488355328) : Calls Tryd.prog 44 #[.pointer (some ⟨bk, 0, none⟩), .int .u8 104, .string (str l)] w fun r w' => r = .returned (.tuple #[]) ∧ LayR e 104 l bk w w' := by
  have HL : Hid (Laid w) := h
  have HP : Hid (Hp w bk 36 (enC e)) := hp
  clear h hp
  go_enter Tryd.func44, Tryd.ntmps44
  go_wp2_with (first
    | (go_at_call 58; go_must (refine (atoi_any l _ HL.out hl).mono ?_); rintro e1 w1 ⟨⟨k, v1, rfl, HK⟩, hb1⟩; go_must (have HL1 : Hid (Laid w1) := laid_keeps _ _ HL.out hb1; have HP1 : Hid (Hp w1 bk 36 (enC e)) := HP.out.below hb1 HP.out.lt))
    | (go_at_call 59; go_must (refine (pu_any l _ HL1.out hl).mono ?_); rintro e1 w2 ⟨⟨n, v2, rfl, HN⟩, hb2⟩; go_must (have HP2 : Hid (Hp w2 bk 36 (enC e)) := HP1.out.below hb2 HP1.out.lt; have c1 := HP2.out.cell (j := 6) rfl; have f1 := HP2.out.frozen 6)))
  exact bodyPost_end (results_none rfl _ _ _) rfl ⟨rfl, lay_fin (v := .int .i64 k) HK.out HN.out hb1 hb2 HP2.out rfl⟩
set_option maxHeartbeats 1600000 in
theorem lay112 (e : En) (bk : Nat) (l : List UInt8) (w : World) (h : Laid w) (hp : Hp w bk 36 (enC e)) (hl : l.length ≤ 140737488355328) : Calls Tryd.prog 44 #[.pointer (some ⟨bk, 0, none⟩), .int .u8 112, .string (str l)] w fun r w' => r = .returned (.tuple #[]) ∧ LayR e 112 l bk w w' := by
  have HL : Hid (Laid w) := h
  have HP : Hid (Hp w bk 36 (enC e)) := hp
  clear h hp
  go_enter Tryd.func44, Tryd.ntmps44
  go_wp2_with (first
    | (go_at_call 58; go_must (refine (atoi_any l _ HL.out hl).mono ?_); rintro e1 w1 ⟨⟨k, v1, rfl, HK⟩, hb1⟩; go_must (have HL1 : Hid (Laid w1) := laid_keeps _ _ HL.out hb1; have HP1 : Hid (Hp w1 bk 36 (enC e)) := HP.out.below hb1 HP.out.lt))
    | (go_at_call 59; go_must (refine (pu_any l _ HL1.out hl).mono ?_); rintro e1 w2 ⟨⟨n, v2, rfl, HN⟩, hb2⟩; go_must (have HP2 : Hid (Hp w2 bk 36 (enC e)) := HP1.out.below hb2 HP1.out.lt; have c1 := HP2.out.cell (j := 7) rfl; have f1 := HP2.out.frozen 7)))
  exact bodyPost_end (results_none rfl _ _ _) rfl ⟨rfl, lay_fin (v := .int .i64 k) HK.out HN.out hb1 hb2 HP2.out rfl⟩
set_option maxHeartbeats 1600000 in
theorem lay118 (e : En) (bk : Nat) (l : List UInt8) (w : World) (h : Laid w) (hp : Hp w bk 36 (enC e)) (hl : l.length ≤ 140737488355328) : Calls Tryd.prog 44 #[.pointer (some ⟨bk, 0, none⟩), .int .u8 118, .string (str l)] w fun r w' => r = .returned (.tuple #[]) ∧ LayR e 118 l bk w w' := by
  have HL : Hid (Laid w) := h
  have HP : Hid (Hp w bk 36 (enC e)) := hp
  clear h hp
  go_enter Tryd.func44, Tryd.ntmps44
  go_wp2_with (first
    | (go_at_call 58; go_must (refine (atoi_any l _ HL.out hl).mono ?_); rintro e1 w1 ⟨⟨k, v1, rfl, HK⟩, hb1⟩; go_must (have HL1 : Hid (Laid w1) := laid_keeps _ _ HL.out hb1; have HP1 : Hid (Hp w1 bk 36 (enC e)) := HP.out.below hb1 HP.out.lt))
    | (go_at_call 59; go_must (refine (pu_any l _ HL1.out hl).mono ?_); rintro e1 w2 ⟨⟨n, v2, rfl, HN⟩, hb2⟩; go_must (have HP2 : Hid (Hp w2 bk 36 (enC e)) := HP1.out.below hb2 HP1.out.lt; have c1 := HP2.out.cell (j := 8) rfl; have f1 := HP2.out.frozen 8)))
  exact bodyPost_end (results_none rfl _ _ _) rfl ⟨rfl, lay_fin (v := .int .i64 k) HK.out HN.out hb1 hb2 HP2.out rfl⟩
set_option maxHeartbeats 1600000 in
theorem lay97 (e : En) (bk : Nat) (l : List UInt8) (w : World) (h : Laid w) (hp : Hp w bk 36 (enC e)) (hl : l.length ≤ 140737488355328) : Calls Tryd.prog 44 #[.pointer (some ⟨bk, 0, none⟩), .int .u8 97, .string (str l)] w fun r w' => r = .returned (.tuple #[]) ∧ LayR e 97 l bk w w' := by
  have HL : Hid (Laid w) := h
  have HP : Hid (Hp w bk 36 (enC e)) := hp
  clear h hp
  go_enter Tryd.func44, Tryd.ntmps44
  go_wp2_with (first
    | (go_at_call 58; go_must (refine (atoi_any l _ HL.out hl).mono ?_); rintro e1 w1 ⟨⟨k, v1, rfl, HK⟩, hb1⟩; go_must (have HL1 : Hid (Laid w1) := laid_keeps _ _ HL.out hb1; have HP1 : Hid (Hp w1 bk 36 (enC e)) := HP.out.below hb1 HP.out.lt))
    | (go_at_call 59; go_must (refine (pu_any l _ HL1.out hl).mono ?_); rintro e1 w2 ⟨⟨n, v2, rfl, HN⟩, hb2⟩; go_must (have HP2 : Hid (Hp w2 bk 36 (enC e)) := HP1.out.below hb2 HP1.out.lt; have c1 := HP2.out.cell (j := 9) rfl; have f1 := HP2.out.frozen 9)))
  exact bodyPost_end (results_none rfl _ _ _) rfl ⟨rfl, lay_fin (v := .int .i64 k) HK.out HN.out hb1 hb2 HP2.out rfl⟩
set_option maxHeartbeats 1600000 in
theorem lay120 (e : En) (bk : Nat) (l : List UInt8) (w : World) (h : Laid w) (hp : Hp w bk 36 (enC e)) (hl : l.length ≤ 140737488355328) : Calls Tryd.prog 44 #[.pointer (some ⟨bk, 0, none⟩), .int .u8 120, .string (str l)] w fun r w' => r = .returned (.tuple #[]) ∧ LayR e 120 l bk w w' := by
  have HL : Hid (Laid w) := h
  have HP : Hid (Hp w bk 36 (enC e)) := hp
  clear h hp
  go_enter Tryd.func44, Tryd.ntmps44
  go_wp2_with (first
    | (go_at_call 58; go_must (refine (atoi_any l _ HL.out hl).mono ?_); rintro e1 w1 ⟨⟨k, v1, rfl, HK⟩, hb1⟩; go_must (have HL1 : Hid (Laid w1) := laid_keeps _ _ HL.out hb1; have HP1 : Hid (Hp w1 bk 36 (enC e)) := HP.out.below hb1 HP.out.lt))
    | (go_at_call 59; go_must (refine (pu_any l _ HL1.out hl).mono ?_); rintro e1 w2 ⟨⟨n, v2, rfl, HN⟩, hb2⟩; go_must (have HP2 : Hid (Hp w2 bk 36 (enC e)) := HP1.out.below hb2 HP1.out.lt; have c1 := HP2.out.cell (j := 21) rfl; have f1 := HP2.out.frozen 21)))
  exact bodyPost_end (results_none rfl _ _ _) rfl ⟨rfl, lay_fin (v := .int .i64 k) HK.out HN.out hb1 hb2 HP2.out rfl⟩
set_option maxHeartbeats 1600000 in
theorem lay109 (e : En) (bk : Nat) (l : List UInt8) (w : World) (h : Laid w) (hp : Hp w bk 36 (enC e)) (hl : l.length ≤ 140737488355328) : Calls Tryd.prog 44 #[.pointer (some ⟨bk, 0, none⟩), .int .u8 109, .string (str l)] w fun r w' => r = .returned (.tuple #[]) ∧ LayR e 109 l bk w w' := by
  have HL : Hid (Laid w) := h
  have HP : Hid (Hp w bk 36 (enC e)) := hp
  clear h hp
  go_enter Tryd.func44, Tryd.ntmps44
  go_wp2_with (first
    | (go_at_call 58; go_must (refine (atoi_any l _ HL.out hl).mono ?_); rintro e1 w1 ⟨⟨k, v1, rfl, HK⟩, hb1⟩; go_must (have HL1 : Hid (Laid w1) := laid_keeps _ _ HL.out hb1; have HP1 : Hid (Hp w1 bk 36 (enC e)) := HP.out.below hb1 HP.out.lt))
    | (go_at_call 59; go_must (refine (pu_any l _ HL1.out hl).mono ?_); rintro e1 w2 ⟨⟨n, v2, rfl, HN⟩, hb2⟩; go_must (have HP2 : Hid (Hp w2 bk 36 (enC e)) := HP1.out.below hb2 HP1.out.lt; have c1 := HP2.out.cell (j := 10) rfl; have f1 := HP2.out.frozen 10)))
  exact bodyPost_end (results_none rfl _ _ _) rfl ⟨rfl, lay_fin (v := .int .i64 k) HK.out HN.out hb1 hb2 HP2.out rfl⟩
set_option maxHeartbeats 1600000 in
theorem lay111 (e : En) (bk : Nat) (l : List UInt8) (w : World) (h : Laid w) (hp : Hp w bk 36 (enC e)) (hl : l.length ≤ 140737488355328) : Calls Tryd.prog 44 #[.pointer (some ⟨bk, 0, none⟩), .int .u8 111, .string (str l)] w fun r w' => r = .returned (.tuple #[]) ∧ LayR e 111 l bk w w' := by
  have HL : Hid (Laid w) := h
  have HP : Hid (Hp w bk 36 (enC e)) := hp
  clear h hp
  go_enter Tryd.func44, Tryd.ntmps44
  go_wp2_with (first
    | (go_at_call 58; go_must (refine (atoi_any l _ HL.out hl).mono ?_); rintro e1 w1 ⟨⟨k, v1, rfl, HK⟩, hb1⟩; go_must (have HL1 : Hid (Laid w1) := laid_keeps _ _ HL.out hb1; have HP1 : Hid (Hp w1 bk 36 (enC e)) := HP.out.below hb1 HP.out.lt))
    | (go_at_call 59; go_must (refine (pu_any l _ HL1.out hl).mono ?_); rintro e1 w2 ⟨⟨n, v2, rfl, HN⟩, hb2⟩; go_must (have HP2 : Hid (Hp w2 bk 36 (enC e)) := HP1.out.below hb2 HP1.out.lt; have c1 := HP2.out.cell (j := 11) rfl; have f1 := HP2.out.frozen 11)))
  exact bodyPost_end (results_none rfl _ _ _) rfl ⟨rfl, lay_fin (v := .int .i64 k) HK.out HN.out hb1 hb2 HP2.out rfl⟩
set_option maxHeartbeats 1600000 in
theorem lay121 (e : En) (bk : Nat) (l : List UInt8) (w : World) (h : Laid w) (hp : Hp w bk 36 (enC e)) (hl : l.length ≤ 140737488355328) : Calls Tryd.prog 44 #[.pointer (some ⟨bk, 0, none⟩), .int .u8 121, .string (str l)] w fun r w' => r = .returned (.tuple #[]) ∧ LayR e 121 l bk w w' := by
  have HL : Hid (Laid w) := h
  have HP : Hid (Hp w bk 36 (enC e)) := hp
  clear h hp
  go_enter Tryd.func44, Tryd.ntmps44
  go_wp2_with (first
    | (go_at_call 58; go_must (refine (atoi_any l _ HL.out hl).mono ?_); rintro e1 w1 ⟨⟨k, v1, rfl, HK⟩, hb1⟩; go_must (have HL1 : Hid (Laid w1) := laid_keeps _ _ HL.out hb1; have HP1 : Hid (Hp w1 bk 36 (enC e)) := HP.out.below hb1 HP.out.lt))
    | (go_at_call 59; go_must (refine (pu_any l _ HL1.out hl).mono ?_); rintro e1 w2 ⟨⟨n, v2, rfl, HN⟩, hb2⟩; go_must (have HP2 : Hid (Hp w2 bk 36 (enC e)) := HP1.out.below hb2 HP1.out.lt; have c1 := HP2.out.cell (j := 14) rfl; have f1 := HP2.out.frozen 14)))
  exact bodyPost_end (results_none rfl _ _ _) rfl ⟨rfl, lay_fin (v := .int .i64 k) HK.out HN.out hb1 hb2 HP2.out rfl⟩
set_option maxHeartbeats 1600000 in
theorem lay98 (e : En) (bk : Nat) (l : List UInt8) (w : World) (h : Laid w) (hp : Hp w bk 36 (enC e)) (hl : l.length ≤ 140737488355328) : Calls Tryd.prog 44 #[.pointer (some ⟨bk, 0, none⟩), .int .u8 98, .string (str l)] w fun r w' => r = .returned (.tuple #[]) ∧ LayR e 98 l bk w w' := by
  have HL : Hid (Laid w) := h
  have HP : Hid (Hp w bk 36 (enC e)) := hp
  clear h hp
  go_enter Tryd.func44, Tryd.ntmps44
  go_wp2_with (first
    | (go_at_call 58; go_must (refine (atoi_any l _ HL.out hl).mono ?_); rintro e1 w1 ⟨⟨k, v1, rfl, HK⟩, hb1⟩; go_must (have HL1 : Hid (Laid w1) := laid_keeps _ _ HL.out hb1; have HP1 : Hid (Hp w1 bk 36 (enC e)) := HP.out.below hb1 HP.out.lt))
    | (go_at_call 59; go_must (refine (pu_any l _ HL1.out hl).mono ?_); rintro e1 w2 ⟨⟨n, v2, rfl, HN⟩, hb2⟩; go_must (have HP2 : Hid (Hp w2 bk 36 (enC e)) := HP1.out.below hb2 HP1.out.lt; have c1 := HP2.out.cell (j := 15) rfl; have f1 := HP2.out.frozen 15)))
  exact bodyPost_end (results_none rfl _ _ _) rfl ⟨rfl, lay_fin (v := .bool (k == 1)) HK.out HN.out hb1 hb2 HP2.out rfl⟩
set_option maxHeartbeats 1600000 in
theorem lay110 (e : En) (bk : Nat) (l : List UInt8) (w : World) (h : Laid w) (hp : Hp w bk 36 (enC e)) (hl : l.length ≤ 140737488355328) : Calls Tryd.prog 44 #[.pointer (some ⟨bk, 0, none⟩), .int .u8 110, .string (str l)] w fun r w' => r = .returned (.tuple #[]) ∧ LayR e 110 l bk w w' := by
  have HL : Hid (Laid w) := h
  have HP : Hid (Hp w bk 36 (enC e)) := hp
  clear h hp
  go_enter Tryd.func44, Tryd.ntmps44
  go_wp2_with (first
    | (go_at_call 58; go_must (refine (atoi_any l _ HL.out hl).mono ?_); rintro e1 w1 ⟨⟨k, v1, rfl, HK⟩, hb1⟩; go_must (have HL1 : Hid (Laid w1) := laid_keeps _ _ HL.out hb1; have HP1 : Hid (Hp w1 bk 36 (enC e)) := HP.out.below hb1 HP.out.lt))
    | (go_at_call 59; go_must (refine (pu_any l _ HL1.out hl).mono ?_); rintro e1 w2 ⟨⟨n, v2, rfl, HN⟩, hb2⟩; go_must (have HP2 : Hid (Hp w2 bk 36 (enC e)) := HP1.out.below hb2 HP1.out.lt; have c1 := HP2.out.cell (j := 20) rfl; have f1 := HP2.out.frozen 20)))
  exact bodyPost_end (results_none rfl _ _ _) rfl ⟨rfl, lay_fin (v := .int .u64 n) HK.out HN.out hb1 hb2 HP2.out rfl⟩
set_option maxHeartbeats 1600000 in
theorem lay107 (e : En) (bk : Nat) (l : List UInt8) (w : World) (h : Laid w) (hp : Hp w bk 36 (enC e)) (hl : l.length ≤ 140737488355328) : Calls Tryd.prog 44 #[.pointer (some ⟨bk, 0, none⟩), .int .u8 107, .string (str l)] w fun r w' => r = .returned (.tuple #[]) ∧ LayR e 107 l bk w w' := by
  have HL : Hid (Laid w) := h
  have HP : Hid (Hp w bk 36 (enC e)) := hp
  clear h hp
  go_enter Tryd.func44, Tryd.ntmps44
  go_wp2_with (first
    | (go_at_call 58; go_must (refine (atoi_any l _ HL.out hl).mono ?_); rintro e1 w1 ⟨⟨k, v1, rfl, HK⟩, hb1⟩; go_must (have HL1 : Hid (Laid w1) := laid_keeps _ _ HL.out hb1; have HP1 : Hid (Hp w1 bk 36 (enC e)) := HP.out.below hb1 HP.out.lt))
    | (go_at_call 59; go_must (refine (pu_any l _ HL1.out hl).mono ?_); rintro e1 w2 ⟨⟨n, v2, rfl, HN⟩, hb2⟩; go_must (have HP2 : Hid (Hp w2 bk 36 (enC e)) := HP1.out.below hb2 HP1.out.lt; have c1 := HP2.out.cell (j := 12) rfl; have f1 := HP2.out.frozen 12)))
  exact bodyPost_end (results_none rfl _ _ _) rfl ⟨rfl, lay_fin (v := .int .u64 n) HK.out HN.out hb1 hb2 HP2.out rfl⟩
set_option maxHeartbeats 1600000 in
theorem lay119 (e : En) (bk : Nat) (l : List UInt8) (w : World) (h : Laid w) (hp : Hp w bk 36 (enC e)) (hl : l.length ≤ 140737488355328) : Calls Tryd.prog 44 #[.pointer (some ⟨bk, 0, none⟩), .int .u8 119, .string (str l)] w fun r w' => r = .returned (.tuple #[]) ∧ LayR e 119 l bk w w' := by
  have HL : Hid (Laid w) := h
  have HP : Hid (Hp w bk 36 (enC e)) := hp
  clear h hp
  go_enter Tryd.func44, Tryd.ntmps44
  go_wp2_with (first
    | (go_at_call 58; go_must (refine (atoi_any l _ HL.out hl).mono ?_); rintro e1 w1 ⟨⟨k, v1, rfl, HK⟩, hb1⟩; go_must (have HL1 : Hid (Laid w1) := laid_keeps _ _ HL.out hb1; have HP1 : Hid (Hp w1 bk 36 (enC e)) := HP.out.below hb1 HP.out.lt))
    | (go_at_call 59; go_must (refine (pu_any l _ HL1.out hl).mono ?_); rintro e1 w2 ⟨⟨n, v2, rfl, HN⟩, hb2⟩; go_must (have HP2 : Hid (Hp w2 bk 36 (enC e)) := HP1.out.below hb2 HP1.out.lt; have c1 := HP2.out.cell (j := 13) rfl; have f1 := HP2.out.frozen 13)))
  exact bodyPost_end (results_none rfl _ _ _) rfl ⟨rfl, lay_fin (v := .int .u64 n) HK.out HN.out hb1 hb2 HP2.out rfl⟩
set_option maxHeartbeats 1600000 in
theorem lay114 (e : En) (bk : Nat) (l : List UInt8) (w : World) (h : Laid w) (hp : Hp w bk 36 (enC e)) (hl : l.length ≤ 140737488355328) : Calls Tryd.prog 44 #[.pointer (some ⟨bk, 0, none⟩), .int .u8 114, .string (str l)] w fun r w' => r = .returned (.tuple #[]) ∧ LayR e 114 l bk w w' := by
  have HL : Hid (Laid w) := h
  have HP : Hid (Hp w bk 36 (enC e)) := hp
  clear h hp
  go_enter Tryd.func44, Tryd.ntmps44
  go_wp2_with (first
    | (go_at_call 58; go_must (refine (atoi_any l _ HL.out hl).mono ?_); rintro e1 w1 ⟨⟨k, v1, rfl, HK⟩, hb1⟩; go_must (have HL1 : Hid (Laid w1) := laid_keeps _ _ HL.out hb1; have HP1 : Hid (Hp w1 bk 36 (enC e)) := HP.out.below hb1 HP.out.lt))
    | (go_at_call 59; go_must (refine (pu_any l _ HL1.out hl).mono ?_); rintro e1 w2 ⟨⟨n, v2, rfl, HN⟩, hb2⟩; go_must (have HP2 : Hid (Hp w2 bk 36 (enC e)) := HP1.out.below hb2 HP1.out.lt; have c1 := HP2.out.cell (j := 16) rfl; have f1 := HP2.out.frozen 16)))
  exact bodyPost_end (results_none rfl _ _ _) rfl ⟨rfl, lay_fin (v := .int .u64 n) HK.out HN.out hb1 hb2 HP2.out rfl⟩
set_option maxHeartbeats 1600000 in
theorem lay79 (e : En) (bk : Nat) (l : List UInt8) (w : World) (h : Laid w) (hp : Hp w bk 36 (enC e)) (hl : l.length ≤ 140737488355328) : Calls Tryd.prog 44 #[.pointer (some ⟨bk, 0, none⟩), .int .u8 79, .string (str l)] w fun r w' => r = .returned (.tuple #[]) ∧ LayR e 79 l bk w w' := by
  have HL : Hid (Laid w) := h
  have HP : Hid (Hp w bk 36 (enC e)) := hp
  clear h hp
  go_enter Tryd.func44, Tryd.ntmps44
  go_wp2_with (first
    | (go_at_call 58; go_must (refine (atoi_any l _ HL.out hl).mono ?_); rintro e1 w1 ⟨⟨k, v1, rfl, HK⟩, hb1⟩; go_must (have HL1 : Hid (Laid w1) := laid_keeps _ _ HL.out hb1; have HP1 : Hid (Hp w1 bk 36 (enC e)) := HP.out.below hb1 HP.out.lt))
    | (go_at_call 59; go_must (refine (pu_any l _ HL1.out hl).mono ?_); rintro e1 w2 ⟨⟨n, v2, rfl, HN⟩, hb2⟩; go_must (have HP2 : Hid (Hp w2 bk 36 (enC e)) := HP1.out.below hb2 HP1.out.lt; have c1 := HP2.out.cell (j := 18) rfl; have f1 := HP2.out.frozen 18)))
  exact bodyPost_end (results_none rfl _ _ _) rfl ⟨rfl, lay_fin (v := .int .u64 n) HK.out HN.out hb1 hb2 HP2.out rfl⟩
set_option maxHeartbeats 1600000 in
theorem lay86 (e : En) (bk : Nat) (l : List UInt8) (w : World) (h : Laid w) (hp : Hp w bk 36 (enC e)) (hl : l.length ≤ 140737488355328) : Calls Tryd.prog 44 #[.pointer (some ⟨bk, 0, none⟩), .int .u8 86, .string (str l)] w fun r w' => r = .returned (.tuple #[]) ∧ LayR e 86 l bk w w' := by
  have HL : Hid (Laid w) := h
  have HP : Hid (Hp w bk 36 (enC e)) := hp
  clear h hp
  go_enter Tryd.func44, Tryd.ntmps44
  go_wp2_with (first
    | (go_at_call 58; go_must (refine (atoi_any l _ HL.out hl).mono ?_); rintro e1 w1 ⟨⟨k, v1, rfl, HK⟩, hb1⟩; go_must (have HL1 : Hid (Laid w1) := laid_keeps _ _ HL.out hb1; have HP1 : Hid (Hp w1 bk 36 (enC e)) := HP.out.below hb1 HP.out.lt))
    | (go_at_call 59; go_must (refine (pu_any l _ HL1.out hl).mono ?_); rintro e1 w2 ⟨⟨n, v2, rfl, HN⟩, hb2⟩; go_must (have HP2 : Hid (Hp w2 bk 36 (enC e)) := HP1.out.below hb2 HP1.out.lt; have c1 := HP2.out.cell (j := 19) rfl; have f1 := HP2.out.frozen 19)))
  exact bodyPost_end (results_none rfl _ _ _) rfl ⟨rfl, lay_fin (v := .int .u64 n) HK.out HN.out hb1 hb2 HP2.out rfl⟩
theorem llay26 (e : En) (c : UInt8) (hc : c ∈ allL) (bk : Nat) (l : List UInt8) (w : World) (h : Laid w) (hp : Hp w bk 36 (enC e)) (hl : l.length ≤ 140737488355328) : Calls Tryd.prog 44 #[.pointer (some ⟨bk, 0, none⟩), .int .u8 c.toNat, .string (str l)] w fun r w' => r = .returned (.tuple #[]) ∧ LayR e c.toNat l bk w w' := by
  simp only [allL, List.mem_cons, List.not_mem_nil, or_false] at hc
  rcases hc with rfl | rfl | rfl | rfl | rfl | rfl | rfl | rfl | rfl | rfl | rfl | rfl | rfl | rfl | rfl | rfl | rfl | rfl | rfl | rfl
  · exact lay116 e bk l w h hp hl
  · exact lay102 e bk l w h hp hl
  · exact lay99 e bk l w h hp hl
  · exact lay103 e bk l w h hp hl
  · exact lay101 e bk l w h hp hl
  · exact lay104 e bk l w h hp hl
  · exact lay112 e bk l w h hp hl
  · exact lay118 e bk l w h hp hl
  · exact lay97 e bk l w h hp hl
  · exact lay120 e bk l w h hp hl
  · exact lay109 e bk l w h hp hl
  · exact lay111 e bk l w h hp hl
  · exact lay121 e bk l w h hp hl
  · exact lay98 e bk l w h hp hl
  · exact lay110 e bk l w h hp hl
  · exact lay107 e bk l w h hp hl
  · exact lay119 e bk l w h hp hl
  · exact lay114 e bk l w h hp hl
  · exact lay79 e bk l w h hp hl
  · exact lay86 e bk l w h hp hl
end Go.Proofs.YtbfbfbbpajaclaaDoor
