/-
  What the document's words does: a line cut at each blank, in new memory. Condition: the line is of a million bytes and some at most.
-/
import Derived.Test.YteccmagbebghaaaDoorR3Back
import Derived.Test.YteccmagbebghaaaDoorG
import Derived.Laws.AppendOwn
import Derived.Deep.MidRow
namespace Go.Proofs.YteccmagbebghaaaDoor
open Go.RowKit
set_option linter.unusedVariables false

theorem str_cut (l : List UInt8) (a b : Nat) : (str l).extract a b = str ((l.drop a).take (b - a)) := by
  apply ByteArray.ext
  rw [ByteArray.data_extract]
  simp [List.extract_eq_take_drop]
theorem seg_succ {l : List UInt8} {a k : Nat} {c : UInt8} (hak : a ≤ k) (hk : k < l.length) (hc : l[k] = c) : (l.drop a).take (k + 1 - a) = (l.drop a).take (k - a) ++ [c] := by
  rw [show k + 1 - a = (k - a) + 1 by omega, List.take_succ_eq_append_getElem (by simp; omega)]
  congr 2
  rw [List.getElem_drop]
  subst hc
  congr 1
  omega
theorem wordsF_len : ∀ (l acc : List UInt8), (wordsF acc l).length ≤ l.length + 1
  | [], acc => by simp [wordsF]
  | c :: r, acc => by
    unfold wordsF
    split
    · have := wordsF_len r []; simp; omega
    · have := wordsF_len r (acc ++ [c]); simp; omega
abbrev strV (ws : List (List UInt8)) : List Value := ws.map fun x => Value.string (str x)
theorem Tryd.infoStr : (Tryd.prog.info? 9).map (fun i => (i.zero, i.size, i.bytes)) = some (some (.string ⟨#[]⟩), 1, 16) := by kernel_rfl
theorem one_str (w : World) (e : TypeId) (s : ByteArray) (n : Nat) (hn : n = w.heap.size) : ∀ j u, [Value.string s][j]? = some u → (w.alloc (.cells #[.string s] e)).cell? ((⟨n, 0, none⟩ : Addr).add j) = some u := by
  subst hn
  intro j u hu
  cases j with
  | zero => rw [Addr.add_mid]; simp at hu; subst hu; simp
  | succ j => simp at hu
theorem one_cellS (s : ByteArray) : ∀ u ∈ [Value.string s], u.oneCell' = true := by intro u hu; simp at hu; subst hu; rfl

set_option maxRecDepth 100000 in
set_option maxHeartbeats 1600000 in
theorem words_any (l : List UInt8) (w : World) (hl : l.length ≤ 4194304) : Calls Tryd.prog 44 #[.string (str l)] w fun e w' => ∃ v, e = .returned v ∧ w'.ownsRow w.heap.size 9 1 v (wordsL l).length (strV (wordsL l)) ∧ Below w.heap.size w w' := by
  obtain ⟨i0, hi, hz0, hz1, hz2⟩ := info_parts Tryd.infoStr
  go_enter Tryd.func44, Tryd.ntmps44
  go_wp2_with fail
  go_loopw [3, 4, 5] (fun v f i wr => ∃ (k a : Nat) (done : List (List UInt8)), i = .int .i64 k ∧ f = .int .i64 a ∧ done.length ≤ k ∧ k ≤ l.length + 1 ∧ a ≤ k ∧ (k ≤ l.length → wordsL l = done ++ wordsF ((l.drop a).take (k - a)) (l.drop k)) ∧ (k = l.length + 1 → wordsL l = done) ∧ wr.ownsRow w.heap.size 9 1 v done.length (strV done) ∧ Below w.heap.size w wr) (fun _ _ i _ => l.length + 1 - (intOf i).toNat)
  case atStart => exact ⟨0, 0, [], rfl, rfl, by simp, by omega, by omega, fun _ => by simp [wordsL], fun h => by omega, World.ownsRow_nil _ _ _ _, Below.refl _ _⟩
  case round =>
    obtain ⟨k, a, done, rfl, rfl, hdk, hk, hak, hT, hE, hown, hbe⟩ := hrel
    have hsz := hbe.size
    by_cases hlt : k ≤ l.length
    · have HT : Hid (wordsL l = done ++ wordsF ((l.drop a).take (k - a)) (l.drop k)) := hT hlt
      have hcut := str_cut l a k
      clear hT hE
      by_cases hke : k = l.length
      · subst hke
        have HD : Hid (wordsL l = done ++ [(l.drop a).take (l.length - a)]) := by show _ = _; rw [HT.out, List.drop_length]; rfl
        obtain ⟨seg, HSEG⟩ : ∃ seg, Hid (seg = (l.drop a).take (l.length - a)) := ⟨_, rfl⟩
        rw [← HSEG.out] at hcut
        have HD : Hid (wordsL l = done ++ [seg]) := by show _ = _; rw [HD.out, HSEG.out]
        clear HT HSEG
        go_wp2_with (at_builtin; go_must (refine wpList_append_own _ rfl (.tmp 22) (.tmp 27) 65 rfl w.heap.size 9 i0 (.string ⟨#[]⟩) 1 16 Tryd.underlying65 hi hz0 hz1 hz2 rfl (by decide) _ _ _ rfl (hown.alloc _) ⟨_, 0, none⟩ 1 1 [.string (str seg)] rfl rfl (one_str _ _ _ _ (by first | rfl | simp)) (one_cellS _) (by unfold maxLen; omega) (by omega) (by simp; omega) ?_); intro v3 w3 hown3 hg3 _; go_must (have hB3 := (hbe.alloc (by omega) _).grown hg3 (by simp; omega) (fun j hj => (hown.lt j hj).1); clear hg3 hbe hown))
        have HO : Hid (w3.ownsRow w.heap.size 9 1 v3 (done ++ [seg]).length (strV (done ++ [seg]))) := by
          show w3.ownsRow _ _ _ _ _ _
          simpa [strV] using hown3
        clear hown3
        go_roundw
        case rel => exact ⟨l.length + 1, l.length + 1, done ++ [seg], by go_num, by go_num, by simp; omega, by omega, by omega, fun h => by omega, fun _ => HD.out, HO.out, hB3⟩
        case measure => simp [intOf]
      · have hkl : k < l.length := by omega
        have tke : ((k : Int) == (l.length : Int)) = false := by simp; omega
        obtain ⟨c, hc, HC, HDR⟩ : ∃ c, (str l)[k]'(hkl) = c ∧ Hid (l[k] = c) ∧ Hid (l.drop k = c :: l.drop (k + 1)) := ⟨_, rfl, rfl, by show _ = _; rw [List.drop_eq_getElem_cons hkl]; rfl⟩
        by_cases h32 : c = 32
        · subst h32
          obtain ⟨seg, HSEG⟩ : ∃ seg, Hid (seg = (l.drop a).take (k - a)) := ⟨_, rfl⟩
          rw [← HSEG.out] at hcut
          have HD : Hid (wordsL l = (done ++ [seg]) ++ wordsF ((l.drop (k + 1)).take (k + 1 - (k + 1))) (l.drop (k + 1))) := by
            show _ = _; rw [HT.out, HDR.out, ← HSEG.out]; simp [wordsF]
          clear HT HSEG HC HDR hke
          go_wp2_with (at_builtin; go_must (refine wpList_append_own _ rfl (.tmp 22) (.tmp 27) 65 rfl w.heap.size 9 i0 (.string ⟨#[]⟩) 1 16 Tryd.underlying65 hi hz0 hz1 hz2 rfl (by decide) _ _ _ rfl (hown.alloc _) ⟨_, 0, none⟩ 1 1 [.string (str seg)] rfl rfl (one_str _ _ _ _ (by first | rfl | simp)) (one_cellS _) (by unfold maxLen; omega) (by omega) (by simp; omega) ?_); intro v3 w3 hown3 hg3 _; go_must (have hB3 := (hbe.alloc (by omega) _).grown hg3 (by simp; omega) (fun j hj => (hown.lt j hj).1); clear hg3 hbe hown))
          have HO : Hid (w3.ownsRow w.heap.size 9 1 v3 (done ++ [seg]).length (strV (done ++ [seg]))) := by
            show w3.ownsRow _ _ _ _ _ _
            simpa [strV] using hown3
          clear hown3
          go_roundw
          case rel => exact ⟨k + 1, k + 1, done ++ [seg], by go_num, by go_num, by simp; omega, by omega, by omega, fun _ => HD.out, fun h => by omega, HO.out, hB3⟩
          case measure => simp [intOf]; omega
        · have t32 : ((c.toNat : Int) == 32) = false := by
            simp
            intro h
            exact h32 (UInt8.toNat_inj.1 (by show c.toNat = 32; omega))
          have HD : Hid (wordsL l = done ++ wordsF ((l.drop a).take (k + 1 - a)) (l.drop (k + 1))) := by
            show _ = _; rw [HT.out, HDR.out, seg_succ hak hkl HC.out]; simp only [wordsF]; rw [if_neg h32]
          clear HT HC HDR hke h32
          go_wp2_with fail
          go_roundw
          case rel => exact ⟨k + 1, a, done, by go_num, rfl, by omega, by omega, by omega, fun _ => HD.out, fun h => by omega, hown, hbe⟩
          case measure => simp [intOf]; omega
    · have HD : Hid (wordsL l = done) := hE (by omega)
      clear hT hE
      go_wp2_with fail
      go_ret
      exact ⟨_, rfl, by rw [HD.out]; exact hown, hbe⟩
end Go.Proofs.YteccmagbebghaaaDoor
