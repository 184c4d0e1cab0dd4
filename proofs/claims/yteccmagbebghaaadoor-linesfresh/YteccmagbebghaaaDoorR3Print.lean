/-
  What the document's Print does: the text of instructions, or none. Conditions: the slice reads as instructions; its text is no greater than a slice may be.
-/
import Derived.Test.YteccmagbebghaaaDoorR3Lines
import Derived.Test.YteccmagbebghaaaDoorR3Short
import Derived.Test.YteccmagbebghaaaDoorO2Slices
import Derived.Lib.AppendStr
import Derived.Laws.IdiomStrings
import Derived.Deep.MidRow
namespace Go.Proofs.YteccmagbebghaaaDoor
open Go.RowKit
set_option linter.unusedVariables false
set_option maxRecDepth 100000

abbrev In.line (i : In) : List UInt8 := lineL i.op i.d i.a i.b i.imm
/-- The text of instructions. -/
def printB (xs : List In) : List UInt8 := xs.flatMap fun i => i.line ++ [10]
/-- A text, and whether there is one. -/
def printL (xs : List In) : List UInt8 × Int := if xs.all In.right = true then (printB xs, 0) else ([], 12)
theorem printB_len (xs : List In) : (printB xs).length ≤ xs.length * 81 := by
  induction xs with
  | nil => simp [printB]
  | cons x xs ih =>
    have e : printB (x :: xs) = x.line ++ [10] ++ printB xs := by simp [printB]
    have : x.line.length ≤ 80 := lineL_len x.op x.d x.a x.b x.imm
    rw [e]
    simp only [List.length_append, List.length_cons, List.length_nil]
    omega
theorem printB_short (xs : List In) (h : xs.all In.right = true) : (printB xs).length ≤ xs.length * 40 := by
  induction xs with
  | nil => simp [printB]
  | cons x xs ih =>
    have e : printB (x :: xs) = x.line ++ [10] ++ printB xs := by simp [printB]
    rw [List.all_cons, Bool.and_eq_true] at h
    have h1 : x.line.length ≤ 39 := lineL_short h.1
    have h2 := ih h.2
    rw [e]
    simp only [List.length_append, List.length_cons, List.length_nil]
    omega
theorem printB_take {xs : List In} {k : Nat} (hk : k < xs.length) : printB (xs.take (k + 1)) = printB (xs.take k) ++ ((xs.getD k In.nil).line ++ [10]) := by
  have e : xs.getD k In.nil = xs[k] := by simp [hk]
  rw [e, List.take_succ_eq_append_getElem hk]
  unfold printB
  rw [List.flatMap_append]
  simp only [List.flatMap_cons, List.flatMap_nil, List.append_nil]
/-- Bytes as values. -/
abbrev bytesV (l : List UInt8) : List Value := l.map fun b => Value.int .u8 b.toNat
theorem strCells_str (l : List UInt8) : Lib.strCells (str l) = bytesV l := rfl
theorem ret2si {a a' : ByteArray} {b b' : Int} (h1 : a = a') (h2 : b = b') : Ending.returned (.tuple #[.string a, .int .i64 b]) = .returned (.tuple #[.string a', .int .i64 b']) := by rw [h1, h2]
/-- 'string(b)' of an own row of bytes. -/
theorem run_own_string {w : World} {base : Nat} {e src dst : TypeId} {v : Value} {l : List UInt8} (hs : Tryd.prog.underlying src = some (.slice e)) (he : Tryd.prog.underlying e = some (.int .u8)) (hd : Tryd.prog.underlying dst = some .string)
    (hown : w.ownsRow base e 1 v l.length (bytesV l)) : (convert src dst v).run Tryd.prog w = .ok (.string (str l)) w := by
  have h0 := hown
  rcases hown with ⟨h1, ⟨rfl, h2⟩ | ⟨g, cap, cur, rfl, hb, hh, h3, h4, h5, h6⟩⟩
  · have : l = [] := List.eq_nil_of_length_eq_zero h2
    subst this
    rw [run_convert_bytes_string w src dst e none 0 0 hs he hd]
    rfl
  · refine run_convert_bytes_back w src dst e ⟨g, 0, none⟩ cap l hs he hd ?_
    intro j hj
    rw [Addr.add_mid, Nat.zero_add, h0.cellAt j (by omega)]
    simp [hj]
theorem Tryd.infoByte : (Tryd.prog.info? 5).map (fun i => (i.zero, i.size, i.bytes)) = some (some (.int .u8 0), 1, 1) := by kernel_rfl
theorem one_byte (w : World) (e : TypeId) (c : Int) (n : Nat) (hn : n = w.heap.size) : ∀ j u, [Value.int .u8 c][j]? = some u → (w.alloc (.cells #[.int .u8 c] e)).cell? ((⟨n, 0, none⟩ : Addr).add j) = some u := by
  subst hn
  intro j u hu
  cases j with
  | zero => rw [Addr.add_mid]; simp at hu; subst hu; simp
  | succ j => simp at hu
theorem one_cell8 (c : Int) : ∀ u ∈ [Value.int .u8 c], u.oneCell' = true := by intro u hu; simp at hu; subst hu; rfl

set_option maxRecDepth 100000 in
set_option maxHeartbeats 1600000 in
theorem rprint_some (bk off cap : Nat) (xs : List In) (w : World) (hc : xs.length ≤ cap) (hm : cap ≤ 9223372036854775807) (hbk : bk < w.heap.size) (hbytes : xs.length * 40 ≤ 140737488355328) (hwf : ∀ i ∈ xs, i.wf)
    (hat : ∀ k, k < xs.length → At w bk (off + k * 5) (xs.getD k In.nil)) : Calls Tryd.prog 11 #[.slice (some ⟨bk, off, none⟩) xs.length cap] w fun e w' => e = .returned (.tuple #[.string (str (printL xs).1), .int .i64 (printL xs).2]) ∧ Below w.heap.size w w' := by
  obtain ⟨i0, hi, hz0, hz1, hz2⟩ := info_parts Tryd.infoByte
  have HA : Hid (∀ k, k < xs.length → At w bk (off + k * 5) (xs.getD k In.nil)) := hat
  have HW : Hid (∀ i ∈ xs, i.wf) := hwf
  clear hat hwf
  obtain ⟨n, HNE⟩ : ∃ n, Hid (n = xs.length) := ⟨_, rfl⟩
  rw [← HNE.out] at hc hbytes ⊢
  go_enter Tryd.func11, Tryd.ntmps11
  go_wp2_with fail
  go_loopw [4, 5] (fun v i wr => ∃ k : Nat, k ≤ n ∧ i = .int .i64 k ∧ (xs.take k).all In.right = true ∧ wr.ownsRow w.heap.size 5 1 v (printB (xs.take k)).length (bytesV (printB (xs.take k))) ∧ Below w.heap.size w wr) (fun _ i _ => n - (intOf i).toNat)
  case atStart => exact ⟨0, by omega, rfl, rfl, World.ownsRow_nil _ _ _ _, Below.refl _ _⟩
  case round =>
    obtain ⟨k, hk, rfl, hall, hown, hbe⟩ := hrel
    have hsz := hbe.size
    by_cases hlt : k < n
    · obtain ⟨op, d, a, b, imm, HI⟩ : ∃ op d a b imm, Hid (xs.getD k In.nil = ⟨op, d, a, b, imm⟩) := ⟨_, _, _, _, _, rfl⟩
      have hcell := (HA.out k (by have := HNE.out; omega)).below hbe hbk
      rw [HI.out] at hcell
      obtain ⟨h0, h1, h2, h3, h4⟩ := hcell
      simp only at h0 h1 h2 h3 h4
      have hmem : xs.getD k In.nil ∈ xs := by rw [List.getD_eq_getElem?_getD, List.getElem?_eq_getElem (by have := HNE.out; omega)]; simp
      have hw0 := HW.out _ hmem
      rw [HI.out] at hw0
      obtain ⟨_, w1, w2, w3, w4⟩ := hw0
      have bd := bounds_i64 w1
      have ba := bounds_i64 w2
      have bb := bounds_i64 w3
      have bi := bounds_i64 w4
      have hlen := printB_short (xs.take k) hall
      rw [List.length_take] at hlen
      cases hr : rightB op d a b imm
      · have HE : Hid (printL xs = ([], 12)) := by
          show _ = _
          unfold printL
          rw [if_neg]
          rw [all_false (xs := xs) (k := k) (by have := HNE.out; omega) (by rw [HI.out]; exact hr)]
          simp
        clear hall hown HI hmem
        go_wp2_with (go_at_call 20; go_must (refine (right_any op d a b imm _).mono ?_); rintro e w5 ⟨rfl, hb5⟩; go_must (rw [hr]; have hB5 := hbe.trans (hb5.mono hsz); clear hb5))
        go_ret2
        exact ⟨ret2si (by rw [HE.out]) (by rw [HE.out]), hB5⟩
      · obtain ⟨L, HL, hL80⟩ : ∃ L, Hid (L = lineL op d a b imm) ∧ L.length ≤ 39 := ⟨_, rfl, lineL_short hr⟩
        obtain ⟨B, HB, hBl, hown⟩ : ∃ B, Hid (B = printB (xs.take k)) ∧ B.length ≤ 140737488355328 - 40 ∧ wr.ownsRow w.heap.size 5 1 u4 B.length (bytesV B) := ⟨_, rfl, by omega, hown⟩
        have HT : Hid ((xs.take (k + 1)).all In.right = true) := by show _ = _; rw [all_take (xs := xs) (k := k) (by have := HNE.out; omega), hall, HI.out]; exact hr
        have HP : Hid (printB (xs.take (k + 1)) = B ++ L ++ [10]) := by show _ = _; rw [printB_take (by have := HNE.out; omega), HI.out, HB.out, HL.out, List.append_assoc]
        clear hall HI hmem hlen HB
        go_wp2_with (first
          | (go_at_call 20; go_must (refine (right_any op d a b imm _).mono ?_); rintro e w5 ⟨rfl, hb5⟩; go_must (rw [hr]; have hB5 := hbe.trans (hb5.mono hsz); have hown5 := own_below hown hb5 (Nat.le_refl _); have hz5 := hb5.size; rw [← hb5.cell (by show bk < _; omega)] at h0 h1 h2 h3 h4; clear hb5 hbe hown))
          | (go_at_call 21; go_must (refine (line_any op d a b imm _ bd ba bb bi).mono ?_); rintro e w6 ⟨rfl, hb6⟩; go_must (rw [← HL.out]; have hB6 := hB5.trans (hb6.mono (by omega)); have hown6 := own_below hown5 hb6 (Nat.le_refl _); have hz6 := hb6.size; clear hb6 hB5 hown5 h0 h1 h2 h3 h4))
          | (at_builtin; have hq := hown6; clear hq; go_must (refine Lib.wpList_append_own_string _ rfl (.tmp 18) (.tmp 23) 43 9 rfl w.heap.size 5 i0 Tryd.underlying43 Tryd.underlying9 hi hz0 hz1 hz2 _ _ _ rfl hown6 (str L) rfl ?_ ?_ (by omega) ?_); (show B.length + L.length ≤ maxLen; unfold maxLen; omega); (show B.length + L.length ≤ 140737488355328; omega); intro v7 w7 hown7 hg7 _; go_must (rw [strCells_str, show (str L).size = L.length from rfl] at hown7; have hB7 := hB6.grown hg7 (by omega) (fun j hj => (hown6.lt j hj).1); have hz7 := hg7.size; clear hg7 hB6 hown6))
          | (at_builtin; have hq := hown7; clear hq; go_must (refine wpList_append_own _ rfl (.tmp 25) (.tmp 26) 43 rfl w.heap.size 5 i0 (.int .u8 0) 1 1 Tryd.underlying43 hi hz0 hz1 hz2 rfl (by decide) _ _ _ rfl (hown7.alloc _) ⟨_, 0, none⟩ 1 1 [.int .u8 10] rfl rfl (one_byte _ _ _ _ (by simp)) (one_cell8 _) (by unfold maxLen; omega) (by omega) (by simp; omega) ?_); intro v8 w8 hown8 hg8 _; go_must (have hB8 := (hB7.alloc (by omega) _).grown hg8 (by simp; omega) (fun j hj => (hown7.lt j hj).1); clear hg8 hB7 hown7)))
        have HO : Hid (w8.ownsRow w.heap.size 5 1 v8 (printB (xs.take (k + 1))).length (bytesV (printB (xs.take (k + 1))))) := by
          show w8.ownsRow _ _ _ _ _ _
          rw [HP.out]
          simpa [bytesV, Nat.add_assoc] using hown8
        clear hown8
        go_roundw
        case rel => exact ⟨k + 1, by omega, by go_num, HT.out, HO.out, hB8⟩
        case measure => simp [intOf]; omega
    · obtain rfl : k = n := by omega
      rw [show xs.take k = xs by rw [HNE.out]; exact List.take_length] at hall hown
      have HE : Hid (printL xs = (printB xs, 0)) := by show _ = _; unfold printL; rw [if_pos hall]
      have hcv := run_own_string (src := 43) (dst := 9) Tryd.underlying43 Tryd.underlying5 Tryd.underlying9 hown
      clear hall
      go_wp2
      go_ret2
      exact ⟨ret2si (by rw [HE.out]) (by rw [HE.out]), hbe⟩
theorem rprint_none (a : Option Addr) (cap : Nat) (w : World) : Calls Tryd.prog 11 #[.slice a 0 cap] w fun e w' => e = .returned (.tuple #[.string (str []), .int .i64 0]) ∧ w = w' := by
  have hcv := run_own_string (src := 43) (dst := 9) (l := []) Tryd.underlying43 Tryd.underlying5 Tryd.underlying9 (World.ownsRow_nil w 0 5 1)
  go_enter Tryd.func11, Tryd.ntmps11
  go_wp2_with fail
  go_loopw [4, 5] (fun v i wr => v = .slice none 0 0 ∧ i = .int .i64 0 ∧ w = wr) (fun _ i _ => 0)
  case atStart => exact ⟨rfl, rfl, rfl⟩
  case round =>
    obtain ⟨rfl, rfl, rfl⟩ := hrel
    go_wp2
    go_ret2
    exact ⟨rfl, rfl⟩
/-- The document's Print. -/
theorem rprint_any (v : Value) (xs : List In) (w : World) (hs : SeesI w v xs) (hwf : ∀ i ∈ xs, i.wf) (hbytes : xs.length * 40 ≤ 140737488355328) : Calls Tryd.prog 11 #[v] w fun e w' => e = .returned (.tuple #[.string (str (printL xs).1), .int .i64 (printL xs).2]) ∧ Below w.heap.size w w' := by
  obtain ⟨a, cap, rfl, hl, hm, hn, hc⟩ := hs
  cases xs with
  | nil => exact (rprint_none a cap w).mono fun e w' ⟨he, hw⟩ => ⟨he, hw ▸ Below.refl _ _⟩
  | cons x xs =>
    obtain ⟨b, off, rfl, hb, hat⟩ := hc (by simp)
    exact rprint_some b off cap (x :: xs) w hl hm hb hbytes hwf hat
end Go.Proofs.YteccmagbebghaaaDoor
