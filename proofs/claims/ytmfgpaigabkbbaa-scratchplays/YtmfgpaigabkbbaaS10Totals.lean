
/-
  The landed scratch: Totals. Condition: the scratches lie where the pointers say.
-/
import Derived.Test.YtmfgpaigabkbbaaS10Raise
namespace Go.Proofs.Ytmfgpaigabkbbaa
open Go.RowKit
set_option linter.unusedVariables false
set_option linter.unusedSimpArgs false
set_option maxRecDepth 100000

/-- Sums, the first k places. -/
def sumU (a cs : List Int) (k : Nat) : List Int := raiseU a cs k
def sumL (a cs : List Int) : List Int := raiseL a cs
def totStep (a : List Int) : Option (List Int) → List Int
  | none => a
  | some cs => sumL a cs
def totL (ss : List (Option (List Int))) : List Int := ss.foldl totStep nought
theorem tot_len (ss : List (Option (List Int))) : (totL ss).length = 16 := by
  unfold totL
  have : ∀ (ss : List (Option (List Int))) (a : List Int), a.length = 16 → (ss.foldl totStep a).length = 16 := by
    intro ss
    induction ss with
    | nil => intro a h; exact h
    | cons o ss ih =>
      intro a h
      refine ih _ ?_
      cases o with
      | none => exact h
      | some cs => exact raiseU_len _ _ _
  exact this ss _ rfl
theorem tot_take (ss : List (Option (List Int))) {k : Nat} (h : k < ss.length) : totL (ss.take (k + 1)) = totStep (totL (ss.take k)) (ss.getD k none) := by
  rw [show ss.take (k + 1) = ss.take k ++ [ss.getD k none] from by rw [List.take_succ_eq_append_getElem h]; simp [List.getD, h]]
  unfold totL
  rw [List.foldl_append]
  rfl
/-- A pointer that leads to counters, or to nothing. -/
def PtrIs (w : World) (v : Value) (o : Option (List Int)) : Prop := (v = .pointer none ∧ o = none) ∨ ∃ b ws cs, v = .pointer (some ⟨b, 0, none⟩) ∧ o = some cs ∧ Sc w b ws cs
def SeesP (w : World) (v : Value) (ss : List (Option (List Int))) : Prop :=
  ∃ a cap, v = .slice a ss.length cap ∧ ss.length ≤ cap ∧ cap ≤ maxLen ∧ (ss ≠ [] → ∃ b off, a = some ⟨b, off, none⟩ ∧ b < w.heap.size ∧ ∀ i, i < ss.length → ∃ u, w.cell? ⟨b, off + i, none⟩ = some u ∧ PtrIs w u (ss.getD i none))
theorem nums_range {w : World} {b : Nat} {ws cs : List Int} (h : Sc w b ws cs) : w.rangeAt b 16 (nums cs) := h.hp.range fun j hj => by
  rw [List.getElem?_append_right (by rw [nums_len, h.lw]; omega), nums_len, h.lw, show 16 + j - 16 = j by omega]
theorem nums_one (cs : List Int) : ∀ v ∈ nums cs, v.oneCell' = true := by
  intro v hv
  obtain ⟨x, _, rfl⟩ := List.mem_map.1 hv
  rfl
theorem run_index16 {cs : List Int} (h : cs.length = 16) {k : Nat} (hk : k < 16) (w : World) : (Instr.index 42 (.agg (nums cs).toArray) (.int .i64 k)).run Try.prog w = .ok (.int .u64 (cs.getD k 0)) w := by
  have h0 : (0 : Int) ≤ k ∧ (k : Int) < 16 := by omega
  have hc := nums_at cs (k := k) (by omega)
  simp [Instr.index, run_underlying Try.underlying42, asIntOf, h0, go_sem]
  rw [if_pos hk, hc]
  simp [List.getD]
theorem run_make16 (w : World) : (Instr.makeSlice 33 (.int .i64 16) (.int .i64 16)).run Try.prog w = .ok (.slice (some ⟨w.heap.size, 0, none⟩) 16 16) (w.alloc (.cells (nums nought).toArray 32)) := by
  have hi : ∃ i, Try.prog.info? 32 = some i ∧ i.size = 1 ∧ i.zero = some (.int .u64 0) ∧ i.bytes = 8 := ⟨_, rfl, rfl, rfl, rfl⟩
  obtain ⟨i, h1, h2, h3, h4⟩ := hi
  have := run_make (P := Try.prog) w 33 32 i _ Try.underlying33 h1 h3 .i64 .i64 16 16 (by omega) (Int.le_refl _) (by rw [h4]; omega) (by omega)
  rw [h2, show madeCells (Value.int .u64 0).cells (Int.toNat 16 * 1) = (nums nought).toArray from by kernel_rfl] at this
  exact this
theorem own16 (w : World) : (w.alloc (.cells (nums nought).toArray 32)).ownsRow w.heap.size 32 1 (.slice (some ⟨w.heap.size, 0, none⟩) 16 16) 16 (nums nought) := own_lit w w.heap.size 32 (nums nought) w.heap.size rfl (Nat.le_refl _) (by decide)
theorem own_hp {w : World} {g B : Nat} {e : TypeId} {l : List Value} {n : Nat} (h : Hp w g e l) (hB : B ≤ g) (hn : l.length = n) (hm : n ≤ maxLen) : w.ownsRow B e 1 (.slice (some ⟨g, 0, none⟩) n n) n l := by
  subst hn
  exact ⟨by simp, .inr ⟨g, l.length, l.toArray, rfl, hB, h, Nat.le_refl _, hm, by simp, by simp⟩⟩
set_option maxHeartbeats 800000 in
theorem totals_any {v : Value} {ss : List (Option (List Int))} (w : World) (h : SeesP w v ss) : Calls Try.prog 11 #[v] w fun e w' => ∃ u, e = .returned u ∧ w'.ownsRow w.heap.size 32 1 u 16 (nums (totL ss)) ∧ Below w.heap.size w w' := by
  obtain ⟨a, cap, rfl, hlc, hmx, hse⟩ := h
  unfold maxLen at hmx
  have HS : Hid (ss ≠ [] → ∃ b off, a = some ⟨b, off, none⟩ ∧ b < w.heap.size ∧ ∀ i, i < ss.length → ∃ u, w.cell? ⟨b, off + i, none⟩ = some u ∧ PtrIs w u (ss.getD i none)) := hse
  clear hse
  go_enter Try.func11, Try.ntmps11
  have hmk := run_make16
  have HN0 : Hid (Hp (w.alloc (.cells (nums nought).toArray 32)) w.heap.size 32 (nums (totL (ss.take 0)))) := Hp.new w _ _
  have HB0 : Hid (Below w.heap.size w (w.alloc (.cells (nums nought).toArray 32))) := (Below.refl _ _).alloc (Nat.le_refl _) _
  obtain ⟨W1, HW1⟩ : ∃ W1, Hid (w.alloc (.cells (nums nought).toArray 32) = W1) := ⟨_, rfl⟩
  replace hmk := hmk w
  rw [HW1.out] at HN0 HB0 hmk
  go_wp2
  go_loopw [11] (fun i wr => ∃ k : Nat, k ≤ ss.length ∧ i = .int .i64 k ∧ Hid (Hp wr w.heap.size 32 (nums (totL (ss.take k)))) ∧ Hid (Below w.heap.size w wr)) (fun i _ => ss.length - (intOf i).toNat)
  case atStart => exact ⟨0, by omega, rfl, HN0.out, HB0.out⟩
  case round =>
    obtain ⟨k, hk, rfl, HR, HB⟩ := hrel
    by_cases hlt : k < ss.length
    · obtain ⟨g, off, ha, hgl, hc⟩ := HS.out (fun e => by rw [e] at hlt; simp at hlt)
      subst ha
      obtain ⟨u, hcu, hp⟩ := hc k hlt
      have c1 := (HB.out.cell (p := ⟨g, off + k, none⟩) hgl).trans hcu
      have HT := tot_take ss hlt
      have hkI : (k : Int) < ss.length := by omega
      rcases hp with ⟨rfl, ho⟩ | ⟨b, ws, cs, rfl, ho, hsc⟩
      · rw [ho] at HT
        have HT : Hid (totL (ss.take (k + 1)) = totL (ss.take k)) := HT
        clear hc hcu ho
        go_wp2
        go_roundw
        case rel => exact ⟨k + 1, by omega, by go_num, by rw [HT.out]; exact HR.out, HB.out⟩
        case measure => simp [intOf]; omega
      · rw [ho] at HT
        have HT : Hid (totL (ss.take (k + 1)) = sumL (totL (ss.take k)) cs) := HT
        obtain ⟨A, HA⟩ : ∃ A, Hid (totL (ss.take k) = A) := ⟨_, rfl⟩
        have HAl : Hid (A.length = 16) := by have := tot_len (ss.take k); rw [HA.out] at this; exact this
        rw [HA.out] at HT HR
        have hsw := hsc.below HB.out hsc.lt
        have hrg := nums_range hsw
        have HIX : Hid (∀ j : Nat, j < 16 → ∀ w, (Instr.index 42 (.agg (nums cs).toArray) (.int .i64 j)).run Try.prog w = .ok (.int .u64 (cs.getD j 0)) w) := fun j hj => run_index16 hsc.lc hj
        have hi16 : (Try.prog.info? 42).map (·.size) = some (nums cs).length := by rw [nums_len, hsc.lc]; rfl
        obtain ⟨zc, HZ⟩ : ∃ zc, Hid (nums cs = zc) := ⟨_, rfl⟩
        have HC16 : Hid (cs.length = 16) := hsc.lc
        have HZl : Hid (zc.length = 16) := by rw [← HZ.out, nums_len]; exact hsc.lc
        rw [HZ.out] at hrg hi16 HIX
        have HRG : Hid (wr.rangeAt b 16 zc) := hrg
        have HI16 : Hid ((Try.prog.info? 42).map (·.size) = some zc.length) := hi16
        clear hc hcu ho hsw hrg hsc hi16
        go_wp2_with ((with_reducible refine wpList_load_mid ?la 42 (.tmp 20) ?lb b 16 ?lc zc _ HRG.out Try.underlying42 ?ld HI16.out ?le); (case la => rfl); (case lb => rfl); (case lc => rfl); (case ld => rfl))
        go_loopw [22] (fun i wq => ∃ j : Nat, j ≤ 16 ∧ i = .int .i64 j ∧ Hid (Hp wq w.heap.size 32 (nums (sumU A cs j))) ∧ Hid (Below w.heap.size w wq)) (fun i _ => 16 - (intOf i).toNat)
        case atStart => exact ⟨0, by omega, rfl, by unfold sumU; rw [raise_zero _ HAl.out]; exact HR.out, HB.out⟩
        case round =>
          clear c1 HR HB
          obtain ⟨j, hj, rfl, HR, HB⟩ := hrel
          by_cases hjt : j < 16
          · have hjI : (j : Int) < 16 := by omega
            have hix := HIX.out j hjt
            have hl := raiseU_len A cs j
            have c2 := HR.out.cell (nums_at (sumU A cs j) (k := j) (by unfold sumU; omega))
            have f2 := HR.out.frozen j
            obtain ⟨x, HX⟩ : ∃ x, Hid (cs.getD j 0 = x) := ⟨_, rfl⟩
            obtain ⟨y, HY⟩ : ∃ y, Hid ((sumU A cs j).getD j 0 = y) := ⟨_, rfl⟩
            rw [HX.out] at hix
            rw [HY.out] at c2
            have HR2 : Hid (Hp (wr.setCell ⟨w.heap.size, j, none⟩ (.int .u64 (addW y x))) w.heap.size 32 (nums (sumU A cs (j + 1)))) := by
              have := HR.out.set j (.int .u64 (addW y x))
              rw [nums_set, ← HX.out, ← HY.out] at this
              rw [← HX.out, ← HY.out]
              unfold sumU at this ⊢
              rw [raise_step hjt (by rw [HC16.out]; exact hjt)] at this
              exact this
            clear hl
            go_wp2
            go_roundw
            case rel => exact ⟨j + 1, by omega, by go_num, HR2.out, HB.out.trans (grown_to_below (grown_set _ _ _ _) (Nat.le_refl _) HB.out.size)⟩
            case measure => simp [intOf]; omega
          · obtain rfl : j = 16 := by omega
            go_wp2
            go_roundw
            case rel => exact ⟨k + 1, by omega, by go_num, by rw [HT.out]; exact HR.out, HB.out⟩
            case measure => simp [intOf]; omega
    · obtain rfl : k = ss.length := by omega
      go_wp2
      go_ret
      refine ⟨_, rfl, ?_, HB.out⟩
      have h := HR.out
      rw [List.take_length] at h
      exact own_hp h (Nat.le_refl _) (by rw [nums_len, tot_len]) (by decide)
end Go.Proofs.Ytmfgpaigabkbbaa
