
/-
 What the project's Name and Find do, where the table of names holds the document's names. Condition: the package-level variable 'names' reads as it is laid.
-/
import Derived.Test.YtiheafdphgllkaaGreatDoorMW7
import Derived.Handy
import Derived.Deep.MidRow
namespace Go.Proofs.YtiheafdphgllkaaGreatDoor
open Go.RowKit
set_option linter.unusedVariables false
set_option maxRecDepth 100000

def Named_l (w : World) : Prop := 0 < w.heap.size /\ ∀ k, k < 23 -> w.cell? ⟨0, k, none⟩ = some (.string (nameS k))
theorem Named_l.below {w w' : World} {B : Nat} (h : Named_l w) (hb : Below B w w') (hB : 0 < B) : Named_l w' :=
 ⟨Nat.lt_of_lt_of_le h.1 hb.size, fun k hk => (hb.cell (p := ⟨0, k, none⟩) hB).trans (h.2 k hk)⟩

theorem oname_any (op : Int) (w : World) (h : Named_l w) : Calls Tryz.prog 38 #[.int .i64 op] w fun e w' => e = .returned (.string (nameF op)) /\ w = w' := by
 by_cases h0 : 0 <= op
 ·by_cases h1 : op < 23
  ·obtain ⟨i, rfl⟩ := Int.eq_ofNat_of_zero_le h0
   have hi : i < 23 := by omega
   have hci := h.2 i hi
   have HE : Hid (nameF (i : Int) = nameS i) := by show _ = _; unfold nameF; rw [if_pos ⟨h0, h1⟩]; rfl
   clear h
   go_enter Tryz.func38, Tryz.ntmps38
   go_wp2
   go_ret
   exact ⟨rets HE.out.symm, rfl⟩
  ·have HE : Hid (nameF op = ⟨#[]⟩) := by show _ = _; unfold nameF; rw [if_neg (by omega)]
   clear h
   go_enter Tryz.func38, Tryz.ntmps38
   go_wp2
   go_ret
   exact ⟨rets HE.out.symm, rfl⟩
 ·have HE : Hid (nameF op = ⟨#[]⟩) := by show _ = _; unfold nameF; rw [if_neg (by omega)]
  clear h
  go_enter Tryz.func38, Tryz.ntmps38
  go_wp2
  go_ret
  exact ⟨rets HE.out.symm, rfl⟩

theorem names_index (k : Nat) (hk : k < 23) (w : World) : (Instr.index 166 (.agg (nameL.map Value.string).toArray) (.int .i64 k)).run Tryz.prog w = .ok (.string (nameS k)) w := by
 have : k = 0 ∨ k = 1 ∨ k = 2 ∨ k = 3 ∨ k = 4 ∨ k = 5 ∨ k = 6 ∨ k = 7 ∨ k = 8 ∨ k = 9 ∨ k = 10 ∨ k = 11 ∨ k = 12 ∨ k = 13 ∨ k = 14 ∨ k = 15 ∨ k = 16 ∨ k = 17 ∨ k = 18 ∨ k = 19 ∨ k = 20 ∨ k = 21 ∨ k = 22 := by omega
 rcases this with rfl | rfl | rfl | rfl | rfl | rfl | rfl | rfl | rfl | rfl | rfl | rfl | rfl | rfl | rfl | rfl | rfl | rfl | rfl | rfl | rfl | rfl | rfl
 all_goals rfl

set_option maxHeartbeats 3200000 in
theorem ofind_any (s : ByteArray) (w : World) (h : Named_l w) : Calls Tryz.prog 46 #[.string s] w fun e w' => e = .returned (.tuple #[.int .i64 (findL s).1, .bool (findL s).2]) /\ w = w' := by
 obtain ⟨L, HR, hsz, HX⟩ : ∃ L : List Value, Hid (w.rangeAt 0 0 L) /\ (Tryz.prog.info? 166).map (·.size) = some L.length /\ Hid (∀ k : Nat, k < 23 -> ∀ w : World, (Instr.index 166 (.agg L.toArray) (.int .i64 k)).run Tryz.prog w = .ok (.string (nameS k)) w) := by
  refine ⟨nameL.map Value.string, ?_, by kernel_rfl, names_index⟩
  intro j v hv
  simp only [List.getElem?_map, Option.map_eq_some_iff] at hv
  obtain ⟨n, hn, rfl⟩ := hv
  have hj : j < 23 := (List.getElem?_eq_some_iff.1 hn).1
  rw [show (0 + j) = j by omega, h.2 j hj, nameS, List.getD_eq_getElem?_getD, hn]
  rfl
 clear h
 go_enter Tryz.func46, Tryz.ntmps46
 go_wp2_with ((with_reducible refine wpList_load_mid ?qa 166 (.global 0) ?qb 0 0 ?qc L _ HR.out Tryz.underlying166 ?qd hsz ?qe); (case qa => rfl); (case qb => rfl); (case qc => rfl); (case qd => rfl))
 go_loop [7] (fun i => ∃ k : Nat, k <= 23 /\ i = .int .i64 k /\ findL s = findF s (23 - k) k) (fun i => 23 - (intOf i).toNat)
 case atStart => exact ⟨0, by omega, rfl, rfl⟩
 case round =>
  obtain ⟨k, hk, rfl, hf⟩ := hrel
  have HF : Hid (findL s = findF s (23 - k) k) := hf
  clear hf
  by_cases hlt : k < 23
  ·obtain ⟨t, hix, HT⟩ : ∃ t, (∀ w : World, (Instr.index 166 (.agg L.toArray) (.int .i64 k)).run Tryz.prog w = .ok (.string t) w) /\ Hid (t = nameS k) := ⟨_, HX.out k hlt, rfl⟩
   have HS : Hid (findL s = if t = s then ((k : Int), true) else findF s (23 - (k + 1)) (k + 1)) := by
    show _ = _
    rw [HF.out, HT.out]
    have e : 23 - k = (23 - (k + 1)) + 1 := by omega
    rw [e]; rfl
   by_cases hts : t = s
   ·have hb : (t.toList == s.toList) = true := by rw [hts]; simp
    have HE : Hid (findL s = ((k : Int), true)) := by show _ = _; rw [HS.out, if_pos hts]
    clear hts
    go_wp2
    go_ret2
    exact ⟨by rw [HE.out]; rfl, rfl⟩
   ·have hb : (t.toList == s.toList) = false := str_ne hts
    have HE : Hid (findL s = findF s (23 - (k + 1)) (k + 1)) := by show _ = _; rw [HS.out, if_neg hts]
    clear hts
    go_wp2
    go_round
    case rel => exact ⟨k + 1, by omega, by go_num, HE.out⟩
    case measure => simp [intOf]; omega
  ·obtain rfl : k = 23 := by omega
   have HE : Hid (findL s = (0, false)) := by show _ = _; rw [HF.out]; rfl
   go_wp2
   go_ret2
   exact ⟨by rw [HE.out]; rfl, rfl⟩
end Go.Proofs.YtiheafdphgllkaaGreatDoor
