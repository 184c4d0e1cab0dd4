/-
  What the project's Name and Find and the document's do: the helpers' names by number, and the number of a name. Condition: the package-level variable 'names' reads as it is laid (the project's).
-/
import Derived.Test.YtpgkjoahngfgnaaDoorT8Within
import Derived.Laws.Strings
import Derived.Deep.MidRow
namespace Go.Proofs.YtpgkjoahngfgnaaDoor
open Go.RowKit
set_option linter.unusedVariables false
set_option maxRecDepth 100000

/-- The helpers' names. -/
def nameL : List ByteArray := [⟨#[103, 101, 116]⟩, ⟨#[104, 97, 115]⟩, ⟨#[112, 117, 116]⟩, ⟨#[100, 101, 108]⟩, ⟨#[97, 100, 100]⟩, ⟨#[109, 97, 114, 107]⟩, ⟨#[110, 111, 116, 101]⟩]
def nameS (i : Nat) : ByteArray := nameL.getD i ⟨#[]⟩
/-- The name of a number. -/
def nameF (op : Int) : ByteArray := if 0 ≤ op ∧ op < 7 then nameS op.toNat else ⟨#[]⟩
theorem rets {a b : ByteArray} (h : a = b) : Ending.returned (.string a) = .returned (.string b) := by rw [h]
theorem nameS_cases (k : Nat) (hk : k < 7) : k = 0 ∨ k = 1 ∨ k = 2 ∨ k = 3 ∨ k = 4 ∨ k = 5 ∨ k = 6 := by omega

theorem rname_any (op : Int) (w : World) : Calls Tryd.prog 16 #[.int .i64 op] w fun e w' => e = .returned (.string (nameF op)) ∧ Below w.heap.size w w' := by
  by_cases h0 : 0 ≤ op
  · by_cases h1 : op < 7
    · obtain ⟨i, rfl⟩ := Int.eq_ofNat_of_zero_le h0
      have hi : i < 7 := by omega
      have HE : Hid (nameF (i : Int) = nameS i) := by show _ = _; unfold nameF; rw [if_pos ⟨h0, h1⟩]; rfl
      rcases nameS_cases i hi with rfl | rfl | rfl | rfl | rfl | rfl | rfl
      all_goals go_enter Tryd.func16, Tryd.ntmps16
      all_goals go_wp2
      all_goals go_ret
      all_goals exact ⟨rets HE.out.symm, by go_grown⟩
    · have HE : Hid (nameF op = ⟨#[]⟩) := by show _ = _; unfold nameF; rw [if_neg (by omega)]
      go_enter Tryd.func16, Tryd.ntmps16
      go_wp2
      go_ret
      exact ⟨rets HE.out.symm, by go_grown⟩
  · have HE : Hid (nameF op = ⟨#[]⟩) := by show _ = _; unfold nameF; rw [if_neg (by omega)]
    go_enter Tryd.func16, Tryd.ntmps16
    go_wp2
    go_ret
    exact ⟨rets HE.out.symm, by go_grown⟩

theorem str_ne {t s : ByteArray} (h : t ≠ s) : (t.toList == s.toList) = false := by
  rw [beq_eq_false_iff_ne]
  intro e
  rw [ByteArray.toList_eq, ByteArray.toList_eq] at e
  exact h (Go.WideShapes.bytes_inj e)
/-- The first number from i on whose name it is. -/
def findF (s : ByteArray) : Nat → Nat → Int × Bool
  | 0, _ => (0, false)
  | f + 1, i => if nameS i = s then ((i : Int), true) else findF s f (i + 1)
def findL (s : ByteArray) : Int × Bool := findF s 7 0

/-- The document's Name, with the answer as a letter. -/
theorem rname_as {op : Int} {t : ByteArray} (h : Hid (t = nameF op)) (w : World) : Calls Tryd.prog 16 #[.int .i64 op] w fun e w' => e = .returned (.string t) ∧ Below w.heap.size w w' := by
  rw [h.out]; exact rname_any op w
theorem rfind_any (s : ByteArray) (w : World) : Calls Tryd.prog 10 #[.string s] w fun e w' => e = .returned (.tuple #[.int .i64 (findL s).1, .bool (findL s).2]) ∧ Below w.heap.size w w' := by
  go_enter Tryd.func10, Tryd.ntmps10
  go_wp2
  go_loopw [4] (fun i wr => ∃ k : Nat, k ≤ 7 ∧ i = .int .i64 k ∧ findL s = findF s (7 - k) k ∧ Below w.heap.size w wr) (fun i _ => 7 - (intOf i).toNat)
  case atStart => exact ⟨0, by omega, rfl, rfl, Below.refl _ _⟩
  case round =>
    obtain ⟨k, hk, rfl, hf, hB⟩ := hrel
    have HF : Hid (findL s = findF s (7 - k) k) := hf
    clear hf
    by_cases hlt : k < 7
    · obtain ⟨t, HT⟩ : ∃ t, Hid (t = nameF (k : Int)) := ⟨_, rfl⟩
      have HS : Hid (findL s = if t = s then ((k : Int), true) else findF s (7 - (k + 1)) (k + 1)) := by
        show _ = _
        have e1 : nameF (k : Int) = nameS k := by unfold nameF; rw [if_pos (by omega)]; rfl
        rw [HF.out, HT.out, e1]
        have e : 7 - k = (7 - (k + 1)) + 1 := by omega
        rw [e]; rfl
      by_cases hts : t = s
      · have hb : (t.toList == s.toList) = true := by rw [hts]; simp
        have HE : Hid (findL s = ((k : Int), true)) := by show _ = _; rw [HS.out, if_pos hts]
        clear hts
        go_wp2_with (go_at_call 16; go_must (refine (rname_as HT _).mono ?_); rintro e w1 ⟨rfl, hb1⟩; go_must (have hB1 := hB.trans (hb1.mono hB.size); clear hb1))
        go_ret2
        exact ⟨by rw [HE.out]; rfl, hB1⟩
      · have hb : (t.toList == s.toList) = false := str_ne hts
        have HE : Hid (findL s = findF s (7 - (k + 1)) (k + 1)) := by show _ = _; rw [HS.out, if_neg hts]
        clear hts
        go_wp2_with (go_at_call 16; go_must (refine (rname_as HT _).mono ?_); rintro e w1 ⟨rfl, hb1⟩; go_must (have hB1 := hB.trans (hb1.mono hB.size); clear hb1))
        go_roundw
        case rel => exact ⟨k + 1, by omega, by go_num, HE.out, hB1⟩
        case measure => simp [intOf]; omega
    · obtain rfl : k = 7 := by omega
      have HE : Hid (findL s = (0, false)) := by show _ = _; rw [HF.out]; rfl
      go_wp2
      go_ret2
      exact ⟨by rw [HE.out]; rfl, hB⟩

/-- The table of names. -/
def Named (w : World) : Prop := 0 < w.heap.size ∧ ∀ k, k < 7 → w.cell? ⟨0, k, none⟩ = some (.string (nameS k))
theorem Named.below {w w' : World} {B : Nat} (h : Named w) (hb : Below B w w') (hB : 0 < B) : Named w' :=
  ⟨Nat.lt_of_lt_of_le h.1 hb.size, fun k hk => (hb.cell (p := ⟨0, k, none⟩) hB).trans (h.2 k hk)⟩
theorem lthere_any (h : Int) (w : World) : Calls Tryd.prog 28 #[.int .i64 h] w fun e w' => e = .returned (.bool (decide (0 ≤ h ∧ h < 7))) ∧ w = w' := by
  by_cases h0 : 0 ≤ h <;> by_cases h1 : h < 7
  all_goals go_enter Tryd.func28, Tryd.ntmps28
  all_goals go_wp2
  all_goals go_ret
  all_goals exact ⟨rb (by simp [h0, h1]), rfl⟩
/-- there, with the answer as a letter. -/
theorem there_as {h : Int} {r : Bool} (hr : Hid (r = decide (0 ≤ h ∧ h < 7))) (w : World) : Calls Tryd.prog 28 #[.int .i64 h] w fun e w' => e = .returned (.bool r) ∧ w = w' := by
  rw [hr.out]; exact lthere_any h w
theorem oname_any (op : Int) (w : World) (h : Named w) : Calls Tryd.prog 15 #[.int .i64 op] w fun e w' => e = .returned (.string (nameF op)) ∧ w = w' := by
  by_cases hc : 0 ≤ op ∧ op < 7
  · have HT : Hid (true = decide (0 ≤ op ∧ op < 7)) := show true = decide (0 ≤ op ∧ op < 7) from (decide_eq_true hc).symm
    obtain ⟨h0, h1⟩ := hc
    obtain ⟨i, rfl⟩ := Int.eq_ofNat_of_zero_le h0
    have hi : i < 7 := by omega
    have hci := h.2 i hi
    have HE : Hid (nameF (i : Int) = nameS i) := by show _ = _; unfold nameF; rw [if_pos ⟨h0, h1⟩]; rfl
    clear h
    go_enter Tryd.func15, Tryd.ntmps15
    go_wp2_with (go_at_call 28; go_must (refine (there_as HT _).mono ?_); rintro e w1 ⟨rfl, rfl⟩)
    go_ret
    exact ⟨rets HE.out.symm, rfl⟩
  · have HT : Hid (false = decide (0 ≤ op ∧ op < 7)) := show false = decide (0 ≤ op ∧ op < 7) from (decide_eq_false hc).symm
    have HE : Hid (nameF op = ⟨#[]⟩) := by show _ = _; unfold nameF; rw [if_neg hc]
    clear h
    go_enter Tryd.func15, Tryd.ntmps15
    go_wp2_with (go_at_call 28; go_must (refine (there_as HT _).mono ?_); rintro e w1 ⟨rfl, rfl⟩)
    go_ret
    exact ⟨rets HE.out.symm, rfl⟩

theorem names_index (k : Nat) (hk : k < 7) (w : World) : (Instr.index 52 (.agg (nameL.map Value.string).toArray) (.int .i64 k)).run Tryd.prog w = .ok (.string (nameS k)) w := by
  rcases nameS_cases k hk with rfl | rfl | rfl | rfl | rfl | rfl | rfl
  all_goals rfl

set_option maxHeartbeats 3200000 in
theorem ofind_any (s : ByteArray) (w : World) (h : Named w) : Calls Tryd.prog 9 #[.string s] w fun e w' => e = .returned (.tuple #[.int .i64 (findL s).1, .bool (findL s).2]) ∧ w = w' := by
  obtain ⟨L, HR, hsz, HX⟩ : ∃ L : List Value, Hid (w.rangeAt 0 0 L) ∧ (Tryd.prog.info? 52).map (·.size) = some L.length ∧ Hid (∀ k : Nat, k < 7 → ∀ w : World, (Instr.index 52 (.agg L.toArray) (.int .i64 k)).run Tryd.prog w = .ok (.string (nameS k)) w) := by
    refine ⟨nameL.map Value.string, ?_, by kernel_rfl, names_index⟩
    intro j v hv
    simp only [List.getElem?_map, Option.map_eq_some_iff] at hv
    obtain ⟨n, hn, rfl⟩ := hv
    have hj : j < 7 := (List.getElem?_eq_some_iff.1 hn).1
    rw [show (0 + j) = j by omega, h.2 j hj, nameS, List.getD_eq_getElem?_getD, hn]
    rfl
  clear h
  go_enter Tryd.func9, Tryd.ntmps9
  go_wp2_with ((with_reducible refine wpList_load_mid ?qa 52 (.global 0) ?qb 0 0 ?qc L _ HR.out Tryd.underlying52 ?qd hsz ?qe); (case qa => rfl); (case qb => rfl); (case qc => rfl); (case qd => rfl))
  go_loop [7] (fun i => ∃ k : Nat, k ≤ 7 ∧ i = .int .i64 k ∧ findL s = findF s (7 - k) k) (fun i => 7 - (intOf i).toNat)
  case atStart => exact ⟨0, by omega, rfl, rfl⟩
  case round =>
    obtain ⟨k, hk, rfl, hf⟩ := hrel
    have HF : Hid (findL s = findF s (7 - k) k) := hf
    clear hf
    by_cases hlt : k < 7
    · obtain ⟨t, hix, HT⟩ : ∃ t, (∀ w : World, (Instr.index 52 (.agg L.toArray) (.int .i64 k)).run Tryd.prog w = .ok (.string t) w) ∧ Hid (t = nameS k) := ⟨_, HX.out k hlt, rfl⟩
      have HS : Hid (findL s = if t = s then ((k : Int), true) else findF s (7 - (k + 1)) (k + 1)) := by
        show _ = _
        rw [HF.out, HT.out]
        have e : 7 - k = (7 - (k + 1)) + 1 := by omega
        rw [e]; rfl
      by_cases hts : t = s
      · have hb : (t.toList == s.toList) = true := by rw [hts]; simp
        have HE : Hid (findL s = ((k : Int), true)) := by show _ = _; rw [HS.out, if_pos hts]
        clear hts
        go_wp2
        go_ret2
        exact ⟨by rw [HE.out]; rfl, rfl⟩
      · have hb : (t.toList == s.toList) = false := str_ne hts
        have HE : Hid (findL s = findF s (7 - (k + 1)) (k + 1)) := by show _ = _; rw [HS.out, if_neg hts]
        clear hts
        go_wp2
        go_round
        case rel => exact ⟨k + 1, by omega, by go_num, HE.out⟩
        case measure => simp [intOf]; omega
    · obtain rfl : k = 7 := by omega
      have HE : Hid (findL s = (0, false)) := by show _ = _; rw [HF.out]; rfl
      go_wp2
      go_ret2
      exact ⟨by rw [HE.out]; rfl, rfl⟩
end Go.Proofs.YtpgkjoahngfgnaaDoor
