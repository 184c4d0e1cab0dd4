
/-
  ScratchMarks, walked: the answer is true. Condition: the slice reads as its numbers.
-/
import Derived.Test.YtmfgpaigabkbbaaS10Awake
namespace Go.Proofs.Ytmfgpaigabkbbaa
open Go.RowKit
set_option linter.unusedVariables false
set_option linter.unusedSimpArgs false
set_option maxRecDepth 100000

/-- The counters behind the first marks. -/
def markStep (cs : List Int) (a : Int) : List Int := if inB a then oneUp cs a.toNat else cs
def marksL (cs : List Int) (xs : List Int) : List Int := xs.foldl markStep cs
theorem markStep_len {cs : List Int} (a : Int) (h : cs.length = 16) : (markStep cs a).length = 16 := by
  unfold markStep oneUp; split <;> simp [h]
theorem marks_len {cs : List Int} : ∀ (xs : List Int), cs.length = 16 → (marksL cs xs).length = 16 := by
  intro xs
  unfold marksL
  induction xs generalizing cs with
  | nil => intro h; exact h
  | cons x xs ih => intro h; exact ih (markStep_len x h)
theorem marks_take (cs xs : List Int) {k : Nat} (h : k < xs.length) : marksL cs (xs.take (k + 1)) = markStep (marksL cs (xs.take k)) (xs.getD k 0) := by
  rw [take_at xs k h]
  unfold marksL
  rw [List.foldl_append]
  rfl
/-- All within 64 bits. -/
def W64L (cs : List Int) : Prop := ∀ i, 0 ≤ cs.getD i 0 ∧ cs.getD i 0 < 18446744073709551616
theorem addW_in (a b : Int) : 0 ≤ addW a b ∧ addW a b < 18446744073709551616 := by unfold addW; omega
theorem getD_set_any (xs : List Int) (k i : Nat) (n : Int) : (xs.set k n).getD i 0 = if i = k ∧ k < xs.length then n else xs.getD i 0 := by
  by_cases h : k < xs.length
  · rw [getD_set _ _ _ h]
    by_cases hi : i = k
    · rw [if_pos hi, if_pos ⟨hi, h⟩]
    · rw [if_neg hi, if_neg (fun e => hi e.1)]
  · rw [List.set_eq_of_length_le (by omega), if_neg (fun e => h e.2)]
theorem W64L.mark {cs : List Int} (h : W64L cs) (a : Int) : W64L (markStep cs a) := by
  unfold markStep oneUp
  split
  · intro i
    rw [getD_set_any]
    split
    · exact addW_in _ _
    · exact h i
  · exact h
theorem W64L.marks {cs : List Int} : ∀ (xs : List Int), W64L cs → W64L (marksL cs xs) := by
  intro xs
  unfold marksL
  induction xs generalizing cs with
  | nil => intro h; exact h
  | cons x xs ih => intro h; exact ih (h.mark x)
theorem W64L.nought : W64L nought := by
  intro i
  have : Go.Proofs.Ytmfgpaigabkbbaa.nought.getD i 0 = 0 := by
    by_cases h : i < 16
    · exact (by decide : ∀ k : Fin 16, Go.Proofs.Ytmfgpaigabkbbaa.nought.getD k 0 = 0) ⟨i, h⟩
    · rw [List.getD_eq_getElem?_getD, List.getElem?_eq_none (by show 16 ≤ i; omega)]; rfl
  rw [this]; omega
theorem W64L.wf {cs : List Int} (h : W64L cs) : ∀ x ∈ cs, (Lit.int .u64 x).wf = true := by
  intro x hx
  obtain ⟨i, hi, rfl⟩ := List.getElem_of_mem hx
  have := h i
  simp only [List.getD, List.getElem?_eq_getElem hi, Option.getD_some] at this
  exact WalkArith.wf_u64 (by omega)
theorem tot_one {cs : List Int} (hl : cs.length = 16) (h : W64L cs) : totL [some cs] = cs := by
  show raiseU nought cs 16 = cs
  refine list16 (raiseU_len _ _ _) hl fun i hi => ?_
  rw [raiseU_at _ _ _ hi, if_pos (by omega)]
  have e0 : nought.getD i 0 = 0 := (by decide : ∀ k : Fin 16, nought.getD k 0 = 0) ⟨i, hi⟩
  have := h i
  rw [e0]
  unfold addW
  omega
set_option maxHeartbeats 3200000 in
theorem marks_any (v : Value) (xs : List Int) (w : World) (hs : Sees .i64 w v xs) (hb : xs.length * Try.prog.bytesOf 3 ≤ reachBytes) :
    Calls Try.prog 6 #[v] w fun e w' => e = .returned (.bool true) ∧ Below w.heap.size w w' := by
  obtain ⟨Z, HZ⟩ : ∃ Z, Hid (nought = Z) := ⟨_, rfl⟩
  have HV : Hid (Sees .i64 w v xs) := hs
  obtain ⟨av, cap, rfl⟩ := hs.shape
  have hmk := run_make16
  rw [HZ.out] at hmk
  obtain ⟨zc, HZC⟩ : ∃ zc, Hid (nums Z = zc) := ⟨_, rfl⟩
  rw [HZC.out] at hmk
  clear hs hb
  go_enter Try.func6, Try.ntmps6
  go_wp2_with (first
    | (go_at_call 7; go_must (refine (awake_any _).mono ?_); rintro e w1 ⟨rfl, hb1⟩; have HB1 : Hid (Below w.heap.size w w1) := hb1; have hz1 := hb1.size; clear hb1)
    | (go_at_call 8; go_must (refine (new_as HZ _).mono ?_); rintro e w2 ⟨rfl, hs2, hz2', hb2⟩; have HS2 : Hid (Sc w2 w1.heap.size Z Z) := hs2; have HB2 : Hid (Below w.heap.size w w2) := HB1.out.trans (hb2.mono hz1); have hz2 : w1.heap.size < w2.heap.size := (by omega); clear hs2 hz2' hb2 HB1))
  have HW3 : Hid (Hp (w2.alloc (.cells zc.toArray 32)) w2.heap.size 32 (nums (marksL Z (xs.take 0))) ∧ Sc (w2.alloc (.cells zc.toArray 32)) w1.heap.size Z (marksL Z (xs.take 0)) ∧ Below w.heap.size w (w2.alloc (.cells zc.toArray 32))) := by
    rw [← HZC.out]
    exact ⟨Hp.new _ _ _, HS2.out.alloc _, HB2.out.trans ((below_alloc _ _).mono HB2.out.size)⟩
  clear hmk HS2 HB2 HZC
  go_loopw [5] (fun i wr => ∃ k : Nat, k ≤ xs.length ∧ i = .int .i64 k ∧ Hid (Hp wr w2.heap.size 32 (nums (marksL Z (xs.take k))) ∧ Sc wr w1.heap.size Z (marksL Z (xs.take k)) ∧ Below w.heap.size w wr)) (fun i _ => xs.length - (intOf i).toNat)
  case atStart => exact ⟨0, by omega, rfl, HW3.out⟩
  case round =>
    clear HW3
    obtain ⟨k, hk, rfl, HR⟩ := hrel
    by_cases hlt : k < xs.length
    · obtain ⟨cb, co, hav, hcb, hcc, hck, HCE⟩ : ∃ cb co, av = some ⟨cb, co, none⟩ ∧ cb < w.heap.size ∧ xs.length ≤ cap ∧ cap ≤ 9223372036854775807 ∧ Hid (w.cell? ⟨cb, co + k, none⟩ = some (.int .i64 (xs.getD k 0))) := by
        obtain ⟨a', c', hv, h1, h2, h3, h4, h5⟩ := HV.out
        injection hv with e1 e2 e3
        subst e1 e3
        obtain ⟨b, off, rfl, hl, hc⟩ := h5 (fun e => by rw [e] at hlt; simp at hlt)
        exact ⟨b, off, rfl, hl, h1, by unfold maxLen at h2; omega, hc k hlt⟩
      subst hav
      have hkI : (k : Int) < xs.length := by omega
      have HT := marks_take Z xs hlt
      obtain ⟨x, HX⟩ : ∃ x, Hid (xs.getD k 0 = x) := ⟨_, rfl⟩
      obtain ⟨A, HA⟩ : ∃ A, Hid (marksL Z (xs.take k) = A) := ⟨_, rfl⟩
      have HAl : Hid (A.length = 16) := by rw [← HA.out]; exact marks_len _ (by rw [← HZ.out]; rfl)
      rw [HX.out] at HCE HT
      rw [HA.out] at HR HT
      have HT : Hid (marksL Z (xs.take (k + 1)) = markStep A x) := HT
      obtain ⟨y, HY⟩ : ∃ y, Hid ((if inB x then addW (A.getD x.toNat 0) 1 else 0) = y) := ⟨_, rfl⟩
      obtain ⟨D, HD⟩ : ∃ D, Hid ((if inB x then oneUp A x.toNat else A) = D) := ⟨_, rfl⟩
      obtain ⟨r, HE⟩ : ∃ r, Hid ((if inB x then 0 else 35 : Int) = r) := ⟨_, rfl⟩
      have HTD : Hid (marksL Z (xs.take (k + 1)) = D) := HT.out.trans HD.out
      have HCW : Hid (∀ w', Below w.heap.size w w' → w'.cell? ⟨cb, co + k, none⟩ = some (.int .i64 x)) := fun w' hb' => (hb'.cell (p := ⟨cb, co + k, none⟩) hcb).trans HCE.out
      have hS0 : wr.cell? ⟨cb, co + k, none⟩ = some (.int .i64 x) := HCW.out wr HR.out.2.2
      go_wp2
      go_region_held3 (fun w' => w'.cell? ⟨cb, co + k, none⟩ = some (.int .i64 x))
        (first | (with_reducible exact hS5) | exact hS0)
        (first | (go_at_call 18; go_must (refine (mark_as HY HD HE _ HR.out.2.1.drew).mono ?_); rintro e w5 ⟨rfl, hs5, hg5', hz5'⟩; go_must (have hg5 := grown_undrew hg5'; have HS5 : Hid (Sc w5 w1.heap.size Z D) := hs5; have HB5 : Hid (Below w.heap.size w w5) := own_grown HR.out.2.2 hg5 hz1; have HP5 : Hid (Hp w5 w2.heap.size 32 (nums A)) := HR.out.1.grown hg5 (fun e => by injection e with e; omega); have hS5 := HCW.out w5 HB5.out; clear hg5 hg5' hs5 hz5' hS0)))
      clear HR
      cases hi : inB x with
      | false =>
        have hx0 : ¬ (0 ≤ x ∧ x < 16) := of_decide_eq_false hi
        have hy : y = 0 := by rw [← HY.out, hi]; rfl
        have hr : r = 35 := by rw [← HE.out, hi]; rfl
        have HDA : Hid (D = A) := by rw [← HD.out, hi]; rfl
        subst hy
        subst hr
        clear hi
        by_cases hneg : x < 0
        · clear hx0
          go_wp2
          go_roundw
          case rel => exact ⟨k + 1, by omega, by go_num, by rw [HTD.out]; exact ⟨by rw [HDA.out]; exact HP5.out, HS5.out, HB5.out⟩⟩
          case measure => simp [intOf]; omega
        · have hbig : 15 < x := by omega
          clear hx0
          go_wp2
          go_roundw
          case rel => exact ⟨k + 1, by omega, by go_num, by rw [HTD.out]; exact ⟨by rw [HDA.out]; exact HP5.out, HS5.out, HB5.out⟩⟩
          case measure => simp [intOf]; omega
      | true =>
        obtain ⟨h0, h1⟩ : 0 ≤ x ∧ x < 16 := of_decide_eq_true hi
        obtain ⟨j, rfl⟩ : ∃ j : Nat, x = j := ⟨x.toNat, by omega⟩
        obtain ⟨z, HZ2⟩ : ∃ z, Hid (A.getD j 0 = z) := ⟨_, rfl⟩
        have hy : y = (z + 1) % 18446744073709551616 := by rw [← HY.out, hi, ← HZ2.out, Int.toNat_natCast]; rfl
        have hr : r = 0 := by rw [← HE.out, hi]; rfl
        have HDA : Hid (D = A.set j (addW z 1)) := by rw [← HD.out, hi, Int.toNat_natCast, ← HZ2.out]; rfl
        have c1 := HP5.out.cell (nums_at A (k := j) (by rw [HAl.out]; omega))
        have f1 := HP5.out.frozen j
        rw [HZ2.out] at c1
        subst hy
        subst hr
        clear hi
        have hj1 : ¬ (j : Int) < 0 := by omega
        have hj2 : ¬ (15 : Int) < j := by omega
        have hn1 : ¬ cb = w2.heap.size := by omega
        have hn2 : ¬ w2.heap.size = cb := by omega
        have HP6 : Hid (Hp (w5.setCell ⟨w2.heap.size, j, none⟩ (.int .u64 (addW z 1))) w2.heap.size 32 (nums D)) := by
          have := HP5.out.set j (.int .u64 (addW z 1))
          rw [nums_set] at this
          rw [HDA.out]
          exact this
        go_wp2
        go_roundw
        case rel => exact ⟨k + 1, by omega, by go_num, by rw [HTD.out]; exact ⟨HP6.out, HS5.out.grown (grown_set _ _ _ _) (fun e => by injection e with e; omega), HB5.out.trans (grown_to_below (grown_set _ _ _ _) (by omega) HB5.out.size)⟩⟩
        case measure => simp [intOf]; omega
    · obtain rfl : k = xs.length := by omega
      rw [List.take_length] at HR
      obtain ⟨A, HA⟩ : ∃ A, Hid (marksL Z xs = A) := ⟨_, rfl⟩
      have HAl : Hid (A.length = 16) := by rw [← HA.out]; exact marks_len _ (by rw [← HZ.out]; rfl)
      have HAW : Hid (W64L A) := by rw [← HA.out, ← HZ.out]; exact W64L.nought.marks xs
      rw [HA.out] at HR
      have HT1 : Hid (totL [some A] = A) := tot_one HAl.out HAW.out
      clear hlt
      go_wp2_with (first
        | (go_at_call 11; go_must (refine (totals_any _ (one_lit (PtrIs.sc (HR.out.2.1.alloc _)))).mono ?_); rintro e w6 ⟨u, rfl, ho, hb6'⟩; go_must (have hb6 : Below wr.heap.size wr w6 := (below_alloc _ _).trans (hb6'.mono (by simp)); have HO : Hid (Sees .u64 w6 u A) := Sees.own (by rw [HAl.out, ← HT1.out]; exact ho) HAW.out.wf; have HN : Hid (Sees .u64 w6 (.slice (some ⟨w2.heap.size, 0, none⟩) 16 16) A) := Sees.own (by rw [HAl.out]; exact own_hp (HR.out.1.below hb6 HR.out.1.lt) (Nat.le_refl _) (by rw [List.length_map]; exact HAl.out) (by decide)) HAW.out.wf; have HB6 : Hid (Below w.heap.size w w6) := HR.out.2.2.trans (hb6.mono HR.out.2.2.size); clear hb6 hb6' ho HR))
        | (go_at_call 10; go_must (refine (numbers_any u _ A A _ HO.out HN.out).mono ?_); rintro e w7 ⟨rfl, n7, rfl⟩; rw [eqB_true (rfl : A = A)]))
      go_ret
      exact ⟨rfl, below_drewN HB6.out _⟩
end Go.Proofs.Ytmfgpaigabkbbaa
