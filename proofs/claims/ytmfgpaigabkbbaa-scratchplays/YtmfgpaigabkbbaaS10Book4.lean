
/-
  The document's Totals. Condition: the books lie where the pointers say.
-/
import Derived.Test.YtmfgpaigabkbbaaS10Book3
namespace Go.Proofs.Ytmfgpaigabkbbaa
open Go.RowKit
set_option linter.unusedVariables false
set_option linter.unusedSimpArgs false
set_option maxRecDepth 100000

def PtrB (w : World) (u : Value) (o : Option (List Int)) : Prop := (u = .pointer none ∧ o = none) ∨ ∃ c B v ks, u = .pointer (some ⟨c, 0, none⟩) ∧ o = some (csA ks) ∧ Bk w B c v ks
def SeesK (w : World) (v : Value) (ss : List (Option (List Int))) : Prop :=
  ∃ a cap, v = .slice a ss.length cap ∧ ss.length ≤ cap ∧ cap ≤ maxLen ∧ (ss ≠ [] → ∃ b off, a = some ⟨b, off, none⟩ ∧ b < w.heap.size ∧ ∀ i, i < ss.length → ∃ u, w.cell? ⟨b, off + i, none⟩ = some u ∧ PtrB w u (ss.getD i none))
theorem Bk.below {w w' : World} {B c : Nat} {v : Value} {ks : List Ak} (h : Bk w B c v ks) (hb : Below w.heap.size w w') : Bk w' B c v ks := ⟨h.hp.below hb h.hp.lt, own_below h.row hb (Nat.le_refl _)⟩
theorem Bk.alloc {w : World} {B c : Nat} {v : Value} {ks : List Ak} (h : Bk w B c v ks) (o : Obj) : Bk (w.alloc o) B c v ks := h.below (below_alloc w o)
theorem PtrB.nil (w : World) : PtrB w (.pointer none) none := .inl ⟨rfl, rfl⟩
theorem PtrB.bk {w : World} {B c : Nat} {v : Value} {ks : List Ak} (h : Bk w B c v ks) : PtrB w (.pointer (some ⟨c, 0, none⟩)) (some (csA ks)) := .inr ⟨c, B, v, ks, rfl, rfl, h⟩
theorem seesK_lit (w : World) (T : TypeId) (vs : List Value) (ss : List (Option (List Int))) (n : Nat) (hn : n = ss.length) (hv : vs.length = ss.length) (hm : ss.length ≤ 4194304) (h : ∀ i, i < ss.length → PtrB (w.alloc (.cells vs.toArray T)) (vs.getD i (.pointer none)) (ss.getD i none)) :
    SeesK (w.alloc (.cells vs.toArray T)) (.slice (some ⟨w.heap.size, 0, none⟩) n n) ss := by
  subst hn
  refine ⟨_, _, rfl, Nat.le_refl _, by unfold maxLen; omega, fun _ => ⟨w.heap.size, 0, rfl, by simp, fun i hi => ⟨vs.getD i (.pointer none), ?_, h i hi⟩⟩⟩
  rw [Nat.zero_add, World.cell?_alloc_at _ _ _ _ rfl]
  have : i < vs.length := by omega
  simp [List.getD, this]
theorem oneK_lit {w : World} {T : TypeId} {u : Value} {x : Option (List Int)} (h1 : PtrB (w.alloc (.cells #[u] T)) u x) : SeesK (w.alloc (.cells #[u] T)) (.slice (some ⟨w.heap.size, 0, none⟩) 1 1) [x] :=
  seesK_lit w T [u] [x] 1 rfl rfl (by simp) fun i hi => by
    have : i = 0 := by simp at hi; omega
    subst this
    exact h1
set_option maxHeartbeats 1600000 in
theorem rtotals_any {v : Value} {ss : List (Option (List Int))} (w : World) (h : SeesK w v ss) : Calls Try.prog 12 #[v] w fun e w' => ∃ u, e = .returned u ∧ w'.ownsRow w.heap.size 32 1 u 16 (nums (totL ss)) ∧ Below w.heap.size w w' := by
  obtain ⟨a, cap, rfl, hlc, hmx, hse⟩ := h
  unfold maxLen at hmx
  have HS : Hid (ss ≠ [] → ∃ b off, a = some ⟨b, off, none⟩ ∧ b < w.heap.size ∧ ∀ i, i < ss.length → ∃ u, w.cell? ⟨b, off + i, none⟩ = some u ∧ PtrB w u (ss.getD i none)) := hse
  clear hse
  go_enter Try.func12, Try.ntmps12
  have hmk := run_make16
  have HN0 : Hid (Hp (w.alloc (.cells (nums nought).toArray 32)) w.heap.size 32 (nums (totL (ss.take 0)))) := Hp.new w _ _
  have HB0 : Hid (Below w.heap.size w (w.alloc (.cells (nums nought).toArray 32))) := (Below.refl _ _).alloc (Nat.le_refl _) _
  obtain ⟨W1, HW1⟩ : ∃ W1, Hid (w.alloc (.cells (nums nought).toArray 32) = W1) := ⟨_, rfl⟩
  replace hmk := hmk w
  rw [HW1.out] at HN0 HB0 hmk
  go_wp2
  clear hmk
  go_loopw [4] (fun i wr => ∃ k : Nat, k ≤ ss.length ∧ i = .int .i64 k ∧ Hid (Hp wr w.heap.size 32 (nums (totL (ss.take k)))) ∧ Hid (Below w.heap.size w wr)) (fun i _ => ss.length - (intOf i).toNat)
  case atStart => exact ⟨0, by omega, rfl, HN0.out, HB0.out⟩
  case round =>
    obtain ⟨k, hk, rfl, HR, HB⟩ := hrel
    by_cases hlt : k < ss.length
    · obtain ⟨g, off, ha, hgl, hc⟩ := HS.out (fun e => by rw [e] at hlt; simp at hlt)
      subst ha
      obtain ⟨u, hcu, hp⟩ := hc k hlt
      have HC1 : Hid (∀ w', Below w.heap.size w w' → w'.cell? ⟨g, off + k, none⟩ = some u) := fun w' hb' => (hb'.cell (p := ⟨g, off + k, none⟩) hgl).trans hcu
      have HT := tot_take ss hlt
      have hkI : (k : Int) < ss.length := by omega
      rcases hp with ⟨rfl, ho⟩ | ⟨b, B, v, ks, rfl, ho, hsc⟩
      · rw [ho] at HT
        have HT : Hid (totL (ss.take (k + 1)) = totL (ss.take k)) := HT
        have c1 := HC1.out wr HB.out
        clear hc hcu ho
        go_wp2
        refine wp_loop_rounds 1 ?_
        rw [rounds_succ]
        go_wp2
        go_roundw
        case rel => exact ⟨k + 1, by omega, by go_num, by rw [HT.out]; exact HR.out, HB.out⟩
        case measure => simp [intOf]; omega
      · rw [ho] at HT
        have HT : Hid (totL (ss.take (k + 1)) = sumL (totL (ss.take k)) (csA ks)) := HT
        obtain ⟨A, HA⟩ : ∃ A, Hid (totL (ss.take k) = A) := ⟨_, rfl⟩
        have HAl : Hid (A.length = 16) := by have := tot_len (ss.take k); rw [HA.out] at this; exact this
        rw [HA.out] at HT HR
        have HBK : Hid (Bk w B b v ks) := hsc
        clear hc hcu ho hsc
        go_wp2
        go_loopw [5] (fun i wq => ∃ j : Nat, j ≤ 16 ∧ i = .int .i64 j ∧ Hid (Hp wq w.heap.size 32 (nums (sumU A (csA ks) j))) ∧ Hid (Below w.heap.size w wq)) (fun i _ => 16 - (intOf i).toNat)
        case atStart => exact ⟨0, by omega, rfl, by unfold sumU; rw [raise_zero _ HAl.out]; exact HR.out, HB.out⟩
        case round =>
          clear HR HB
          obtain ⟨j, hj, rfl, HR, HB⟩ := hrel
          by_cases hjt : j < 16
          · have hjI : (j : Int) < 16 := by omega
            have c1 := HC1.out wr HB.out
            have hl := raiseU_len A (csA ks) j
            have c2 := HR.out.cell (nums_at (sumU A (csA ks) j) (k := j) (by unfold sumU; omega))
            have f2 := HR.out.frozen j
            obtain ⟨x, HX⟩ : ∃ x, Hid (countA ks (j : Int) = x) := ⟨_, rfl⟩
            have HX2 : (csA ks).getD j 0 = x := (csA_at ks hjt).trans HX.out
            obtain ⟨y, HY⟩ : ∃ y, Hid ((sumU A (csA ks) j).getD j 0 = y) := ⟨_, rfl⟩
            have HIN : Hid (inB (j : Int) = true) := decide_eq_true ⟨by omega, by omega⟩
            rw [HY.out] at c2
            have HR2 : Hid (Hp (wr.setCell ⟨w.heap.size, j, none⟩ (.int .u64 (addW y x))) w.heap.size 32 (nums (sumU A (csA ks) (j + 1)))) := by
              have := HR.out.set j (.int .u64 (addW y x))
              rw [nums_set, ← HX2, ← HY.out] at this
              rw [← HX2, ← HY.out]
              unfold sumU at this ⊢
              rw [raise_step hjt (by rw [csA_len]; exact hjt)] at this
              exact this
            clear hl HX2
            go_wp2_with (go_at_call 23; go_must (refine (bcount_in (j : Int) HIN _ (HBK.out.below HB.out) HX).mono ?_); rintro e w7 ⟨rfl, hw7⟩; go_must (subst hw7))
            go_roundw
            case rel => exact ⟨j + 1, by omega, by go_num, HR2.out, HB.out.trans (grown_to_below (grown_set _ _ _ _) (Nat.le_refl _) HB.out.size)⟩
            case measure => simp [intOf]; omega
          · have hjn : ¬ (j : Int) < 16 := by omega
            obtain hj16 : j = 16 := by omega
            have HR3 : Hid (Hp wr w.heap.size 32 (nums (totL (ss.take (k + 1))))) := by
              rw [HT.out]
              have := HR.out
              rw [hj16] at this
              exact this
            clear hjt hj16
            go_wp2
            go_roundw
            case rel => exact ⟨k + 1, by omega, by go_num, HR3.out, HB.out⟩
            case measure => simp [intOf]; omega
    · obtain rfl : k = ss.length := by omega
      go_wp2
      go_ret
      refine ⟨_, rfl, ?_, HB.out⟩
      have h := HR.out
      rw [List.take_length] at h
      exact own_hp h (Nat.le_refl _) (by rw [nums_len, tot_len]) (by decide)
end Go.Proofs.Ytmfgpaigabkbbaa
