
/-
  EpochRises, walked. Condition: none but the arguments' reading.
-/
import Derived.Test.YtkcbiiiakkpegaaW17Rf
namespace Go.Proofs.Ytkcbiiiakkpegaa
open Go.RowKit
set_option linter.unusedVariables false
set_option linter.unusedSimpArgs false
set_option maxRecDepth 100000
theorem fold_le (l : List Int) : ∀ m z : Int, m ≤ l.foldl oldF z ↔ m ≤ z ∧ ∀ x ∈ l, x ≠ 0 → m ≤ x := by
  induction l with
  | nil => intro m z; simp
  | cons y l ih =>
    intro m z
    rw [List.foldl_cons, ih]
    unfold oldF
    constructor
    · rintro ⟨h1, h2⟩
      split at h1
      · rename_i hc
        refine ⟨by omega, fun x hx hx0 => ?_⟩
        rcases List.mem_cons.1 hx with e | e
        · rw [e]; exact h1
        · exact h2 x e hx0
      · rename_i hc
        refine ⟨h1, fun x hx hx0 => ?_⟩
        rcases List.mem_cons.1 hx with e | e
        · rw [e]; rw [e] at hx0; omega
        · exact h2 x e hx0
    · rintro ⟨h1, h2⟩
      refine ⟨?_, fun x hx hx0 => h2 x (List.mem_cons_of_mem _ hx) hx0⟩
      split
      · rename_i hc
        exact h2 y (by simp) hc.1
      · exact h1
theorem Ck.old_le {c : Ck} {m : Int} : m ≤ c.old ↔ m ≤ c.now ∧ ∀ x ∈ c.ins, x ≠ 0 → m ≤ x := fold_le _ _ _
theorem Ck.old_now (c : Ck) : c.old ≤ c.now := (Ck.old_le.1 (Int.le_refl c.old)).1
theorem Ck.enter_old {c c' : Ck} {x n E : Int} (h : c.enter x = (n, E, c')) : c.old ≤ c'.old := by
  have h0 := Ck.old_le.1 (Int.le_refl c.old)
  by_cases hE : E = 0
  · unfold Ck.enter at h
    split at h
    · injection h with _ h
      injection h with h _
      omega
    · split at h
      · injection h with _ h
        injection h with _ h
        rw [← h]
        refine Ck.old_le.2 ⟨h0.1, fun y hy hy0 => ?_⟩
        rcases mem_set hy with e | e
        · exact h0.2 y e hy0
        · rw [e]; exact h0.1
      · injection h with _ h
        injection h with h _
        omega
  · rw [Ck.enter_same h hE]; exact Int.le_refl _
theorem Ck.leave_old {c c' : Ck} {ws : List Int} {E : Int} (h : c.leave ws = (E, c')) : c.old ≤ c'.old := by
  have h0 := Ck.old_le.1 (Int.le_refl c.old)
  by_cases hE : E = 0
  · unfold Ck.leave at h
    split at h
    · injection h with h _
      omega
    · split at h
      · injection h with h _
        omega
      · injection h with _ h
        rw [← h]
        refine Ck.old_le.2 ⟨h0.1, fun y hy hy0 => ?_⟩
        rcases clr_mem ws _ y hy with e | e
        · exact h0.2 y e hy0
        · exact absurd e hy0
  · rw [Ck.leave_same h hE]; exact Int.le_refl _
theorem Ck.go_old (c : Ck) : c.old ≤ c.go.old := by
  have h0 := Ck.old_le.1 (Int.le_refl c.old)
  exact Ck.old_le.2 ⟨by show c.old ≤ c.now + 1; omega, h0.2⟩
theorem Ck.enter_in {c c' : Ck} {x n : Int} (h : c.enter x = (n, 0, c')) : n = c.now ∧ c'.at x = c.now := by
  unfold Ck.enter at h
  split at h
  · injection h with _ h
    injection h with h _
    cases h
  · split at h
    · rename_i hh _
      injection h with h1 h
      injection h with _ h
      refine ⟨h1.symm, ?_⟩
      rw [← h]
      obtain ⟨k, rfl, hk⟩ := Ck.has_nat (by simpa using hh)
      rw [Ck.at_nat]
      simp [List.getD, hk]
    · injection h with _ h
      injection h with h _
      cases h
theorem Ck.enter_zero {c c' : Ck} {x n E : Int} (h : c.enter x = (n, E, c')) (hE : E ≠ 0) : n = 0 := by
  unfold Ck.enter at h
  split at h
  · injection h with h _
    exact h.symm
  · split at h
    · injection h with _ h
      injection h with h _
      exact absurd h.symm hE
    · injection h with h _
      exact h.symm
theorem epochRises_no (n : Int) (sv : Value) (w : World) (h : n < 1 ∨ 4 < n) :
    Calls Try.prog 6 #[.int .i64 n, sv] w fun e w' => e = .returned (.bool true) ∧ Below w.heap.size w w' := by
  go_enter Try.func6, Try.ntmps6
  go_wp2_with (first
    | (go_at_call 7; go_must (refine (awake17_any w).mono ?_); rintro e w1 ⟨rfl, hb1⟩)
    | (go_at_call 8; go_must (refine (lnew_no n h _).mono ?_); rintro e w2 ⟨rfl, rfl⟩))
  go_ret
  exact ⟨rfl, hb1⟩
/-- What is known of the clock behind a call. -/
structure Up (c c6 : Ck) (nw ol n6 o6 : Int) (j : Nat) : Prop where
  a : c.now = nw
  b : c.old = ol
  d : c6.now = n6
  e : c6.old = o6
  f : nw ≤ n6
  g : ol ≤ o6
  h : o6 ≤ n6
  i : n6 ≤ j + 2
theorem Up.mk' {c c6 : Ck} {nw ol : Int} {j : Nat} (h1 : c.now = nw) (h2 : c.old = ol) (h3 : c.now ≤ c6.now) (h4 : c.old ≤ c6.old) (h5 : c6.now ≤ j + 2) : ∃ n6 o6, Hid (Up c c6 nw ol n6 o6 j) := ⟨c6.now, c6.old, h1, h2, rfl, rfl, by omega, by omega, c6.old_now, h5⟩
set_option maxHeartbeats 12800000 in
theorem epochRises_ok (n : Nat) (h1 : 1 ≤ n) (h2 : n ≤ 4) (sv : Value) (is : List Ow) (w : World) (hs : Scr w sv is) (hlen : is.length * 40 ≤ 140737488351232) :
    Calls Try.prog 6 #[.int .i64 n, sv] w fun e w' => e = .returned (.bool true) ∧ Below w.heap.size w w' := by
  have HSC := keepG hs
  obtain ⟨a, c, rfl, hc, hm, _, _⟩ := hs.sees
  have hm' : c ≤ 9223372036854775807 := by unfold maxLen at hm; omega
  have hnI : (1 : Int) ≤ n := by omega
  have HO0 : Hid ((Ck.new n).old = 1) := by
    show _ = _
    have : n = 1 ∨ n = 2 ∨ n = 3 ∨ n = 4 := by omega
    rcases this with rfl | rfl | rfl | rfl <;> rfl
  clear hs hm
  go_enter Try.func6, Try.ntmps6
  go_wp2_with (first
    | (go_at_call 7; go_must (refine (awake17_any w).mono ?_); rintro e w1 ⟨rfl, hb1⟩)
    | (go_at_call 8; go_must (refine (lnew_ok n h1 h2 w1).mono ?_); rintro e w2 ⟨rfl, hE, hS, hb⟩; go_must (have HC0 : Hid (Cl w w2 (w1.heap.size + 1) w1.heap.size (Ck.new n)) := ⟨hE, Ck.Ok.new h1 h2, fun k hk => Nat.le_trans hb1.size (hS k hk), hb1.trans (hb.mono hb1.size)⟩; clear hE hS hb))
    | (go_at_call 20; go_must (refine (lnow HC0.out.ec).mono ?_); rintro e w3 ⟨rfl, rfl⟩)
    | (go_at_call 19; go_must (refine (loldest HC0.out.ec HC0.out.ok.len.2 HO0).mono ?_); rintro e w3 ⟨rfl, rfl⟩))
  have HCC : Hid (∃ b g, b = w1.heap.size + 1 ∧ g = w1.heap.size) := ⟨_, _, rfl, rfl⟩
  obtain ⟨b, g, hbb, hgg⟩ := HCC.out
  rw [← hbb, ← hgg] at HC0
  rw [← hbb]
  clear hbb hgg hb1
  go_loopw [7, 8, 9] (fun vn vo i wr => ∃ (j : Nat) (nw ol : Int), j ≤ is.length ∧ vn = .int .i64 nw ∧ vo = .int .i64 ol ∧ i = .int .i64 j ∧ 1 ≤ nw ∧ nw ≤ j + 1 ∧ ∃ ck, Hid (Cl w wr b g ck ∧ ck.now = nw ∧ ck.old = ol)) (fun _ _ i _ => is.length - (intOf i).toNat)
  case atStart => exact ⟨0, 1, 1, by omega, rfl, rfl, rfl, by omega, by omega, Ck.new n, HC0.out, rfl, HO0.out⟩
  case round =>
    obtain ⟨j, nw, ol, hj, rfl, rfl, rfl, hw1, hw2, ck, HM⟩ := hrel
    rename World => wr
    by_cases hlt : j < is.length
    · have hltI : (j : Int) < is.length := by omega
      obtain ⟨o, HO⟩ : ∃ o, Hid (is.getD j Ow.nil = o) := ⟨_, rfl⟩
      obtain ⟨p, off, cap, ev, _, _, d0, d1, d2, hsu, hlu, hwf⟩ := HSC.out.at HM.out.1.be hlt HO.out
      simp only [Value.slice.injEq, true_and] at ev
      obtain ⟨rfl, rfl⟩ := ev
      obtain ⟨X, HX, hbX, HPX⟩ := op_box17 wr o
      have HCX := keepG (HM.out.1.below hbX)
      have HN0 := keepG HM.out.2
      obtain ⟨ok, ox, ou, ow⟩ := o
      simp only at d0 d1 d2 HX hwf hsu
      obtain ⟨oa, oc, ev⟩ := hsu.shape
      subst ev
      have HWF := keepG hwf
      have o0 := HPX.out.cell (j := 0) rfl
      have o1 := HPX.out.cell (j := 1) rfl
      simp only at o0 o1
      clear HM hsu hlu hwf
      by_cases hk0 : ok = 0
      · subst hk0
        obtain ⟨m6, E, c6, HQ⟩ : ∃ m6 E c6, Hid (ck.enter ox = (m6, E, c6)) := ⟨_, _, _, rfl⟩
        have UPX : ∀ {w7 : World}, Cl w w7 b g c6 → ∃ n6 o6, Hid (Up ck c6 nw ol n6 o6 j) := fun _ => Up.mk' HN0.out.1 HN0.out.2 (by rw [(Ck.enter_now HQ.out).1]; exact Int.le_refl _) (Ck.enter_old HQ.out) (by rw [(Ck.enter_now HQ.out).1]; have := HN0.out.1; omega)
        by_cases hE : E = 0
        · subst hE
          have hm6 := (Ck.enter_in HQ.out).1
          have HY : Hid (c6.at ox = nw) := by show _ = _; rw [(Ck.enter_in HQ.out).2]; exact HN0.out.1
          rw [HN0.out.1] at hm6
          obtain rfl : nw = m6 := hm6.symm
          have HR : Hid ((nw != 0) = true) := by show _ = _; simp; omega
          clear hm6
          have hw1' := hw1
          go_wp2_with (first
            | (rw [HX.out])
            | (go_at_call 9; go_must (refine (HCX.out.enter ox HQ).mono ?_); rintro e w6 ⟨rfl, hc6, hg6⟩; go_must (have o1 := (HCX.out.box HPX.out (by decide) (by decide) hg6).cell (j := 1) rfl; simp only at o1); go_must (have HC6 := keepG hc6; obtain ⟨n6, o6, HU⟩ := UPX hc6; have NOWC := keepG (HC6.out.ec |> lnow); rw [HU.out.d] at NOWC; have OLDC := keepG (loldest HC6.out.ec HC6.out.ok.len.2 (show Hid _ from HU.out.e)); have t1 := HU.out.f; have t2 := HU.out.g; have t3 := HU.out.h; have t4 := HU.out.i; have s1 : ¬ n6 < nw := (by omega); have s2 : ¬ o6 < ol := (by omega); have s3 : ¬ n6 < o6 := (by omega); have s4 : ¬ o6 > n6 := (by omega); clear t1 t2 t3 hc6 hg6))
            | (go_at_call 18; go_must (refine (lin HC6.out.ec ox HY HR).mono ?_); rintro e w7 ⟨rfl, rfl⟩)
            | (go_at_call 20; go_must (refine NOWC.out.mono ?_); rintro e w7 ⟨rfl, rfl⟩)
            | (go_at_call 19; go_must (refine OLDC.out.mono ?_); rintro e w7 ⟨rfl, rfl⟩))
          go_roundw
          case rel => exact ⟨j + 1, n6, o6, by omega, rfl, rfl, by go_num, by omega, by omega, c6, HC6.out, HU.out.d, HU.out.e⟩
          case measure => simp [intOf]; omega
        · have hm6 := Ck.enter_zero HQ.out hE
          subst hm6
          have hE1 : (E == 0) = false := by simpa using hE
          have hE2 : (E != 0) = true := by simpa using hE
          obtain ⟨y, HY⟩ : ∃ y, Hid (c6.at ox = y) := ⟨_, rfl⟩
          obtain ⟨r, HR⟩ : ∃ r, Hid ((y != 0) = r) := ⟨_, rfl⟩
          clear hE
          go_wp2_with (first
            | (rw [HX.out])
            | (go_at_call 9; go_must (refine (HCX.out.enter ox HQ).mono ?_); rintro e w6 ⟨rfl, hc6, hg6⟩; go_must (have o1 := (HCX.out.box HPX.out (by decide) (by decide) hg6).cell (j := 1) rfl; simp only at o1); go_must (have HC6 := keepG hc6; obtain ⟨n6, o6, HU⟩ := UPX hc6; have NOWC := keepG (HC6.out.ec |> lnow); rw [HU.out.d] at NOWC; have OLDC := keepG (loldest HC6.out.ec HC6.out.ok.len.2 (show Hid _ from HU.out.e)); have t1 := HU.out.f; have t2 := HU.out.g; have t3 := HU.out.h; have t4 := HU.out.i; have s1 : ¬ n6 < nw := (by omega); have s2 : ¬ o6 < ol := (by omega); have s3 : ¬ n6 < o6 := (by omega); have s4 : ¬ o6 > n6 := (by omega); clear t1 t2 t3 hc6 hg6))
            | (go_at_call 18; go_must (refine (lin HC6.out.ec ox HY HR).mono ?_); rintro e w7 ⟨rfl, rfl⟩)
            | (go_at_call 20; go_must (refine NOWC.out.mono ?_); rintro e w7 ⟨rfl, rfl⟩)
            | (go_at_call 19; go_must (refine OLDC.out.mono ?_); rintro e w7 ⟨rfl, rfl⟩))
          go_roundw
          case rel => exact ⟨j + 1, n6, o6, by omega, rfl, rfl, by go_num, by omega, by omega, c6, HC6.out, HU.out.d, HU.out.e⟩
          case measure => simp [intOf]; omega
      · by_cases hk1 : ok = 1
        · subst hk1
          obtain ⟨E, c6, HQ⟩ : ∃ E c6, Hid (ck.leave [ox] = (E, c6)) := ⟨_, _, rfl⟩
          have UPX : ∀ {w7 : World}, Cl w w7 b g c6 → ∃ n6 o6, Hid (Up ck c6 nw ol n6 o6 j) := fun _ => Up.mk' HN0.out.1 HN0.out.2 (by rw [(Ck.leave_now HQ.out).1]; exact Int.le_refl _) (Ck.leave_old HQ.out) (by rw [(Ck.leave_now HQ.out).1]; have := HN0.out.1; omega)
          obtain ⟨Z, HZ, hbZ, HSZ⟩ : ∃ Z, Hid (X.alloc (.cells #[.int .i64 ox] 3) = Z) ∧ Below X.heap.size X Z ∧ Hid (Sees .i64 Z (.slice (some ⟨X.heap.size, 0, none⟩) 1 1) [ox]) := ⟨_, rfl, below_allocG _ _, Sees.lit X .i64 _ [ox] _ 1 rfl rfl (by simp) (by intro x hx; simp at hx; subst hx; exact HWF.out)⟩
          have HCZ := keepG (HCX.out.below hbZ)
          have HAP : Hid (Apt (ftE b g) (ftV (.slice (some ⟨X.heap.size, 0, none⟩) 1 1))) := fun k hk e => by have h5 := HCX.out.ec.lies k hk; have h6 : X.heap.size = k := Option.some.inj e; omega
          go_wp2_with (first
            | (rw [HX.out])
            | (go_at_call 11; go_must (refine (HCZ.out.leave HSZ.out (fun _ k hk e => HAP.out k hk e) HQ).mono ?_); rintro e w6 ⟨rfl, hc6, hg6⟩; go_must (have HC6 := keepG hc6; obtain ⟨n6, o6, HU⟩ := UPX hc6; have NOWC := keepG (HC6.out.ec |> lnow); rw [HU.out.d] at NOWC; have OLDC := keepG (loldest HC6.out.ec HC6.out.ok.len.2 (show Hid _ from HU.out.e)); have t1 := HU.out.f; have t2 := HU.out.g; have t3 := HU.out.h; have t4 := HU.out.i; have s1 : ¬ n6 < nw := (by omega); have s2 : ¬ o6 < ol := (by omega); have s3 : ¬ n6 < o6 := (by omega); have s4 : ¬ o6 > n6 := (by omega); clear t1 t2 t3 hc6 hg6))
            | (rw [HZ.out])
            | (go_at_call 20; go_must (refine NOWC.out.mono ?_); rintro e w7 ⟨rfl, rfl⟩)
            | (go_at_call 19; go_must (refine OLDC.out.mono ?_); rintro e w7 ⟨rfl, rfl⟩))
          go_roundw
          case rel => exact ⟨j + 1, n6, o6, by omega, rfl, rfl, by go_num, by omega, by omega, c6, HC6.out, HU.out.d, HU.out.e⟩
          case measure => simp [intOf]; omega
        · by_cases hk2 : ok = 2
          · subst hk2
            obtain ⟨c6, HD⟩ : ∃ c6, Hid (ck.go = c6) := ⟨_, rfl⟩
            have UPX : ∀ {w7 : World}, Cl w w7 b g c6 → ∃ n6 o6, Hid (Up ck c6 nw ol n6 o6 j) := fun _ => Up.mk' HN0.out.1 HN0.out.2 (by rw [← HD.out]; show ck.now ≤ ck.now + 1; omega) (by rw [← HD.out]; exact ck.go_old) (by rw [← HD.out]; show ck.now + 1 ≤ _; have := HN0.out.1; omega)
            have ADC := keepG (HCX.out.advance (by rw [HN0.out.1]; omega) HD)
            rw [HN0.out.1] at ADC
            have hwr : IntKind.i64.wrap (nw + 1) = nw + 1 := by rw [IntKind.wrap_i64]; omega
            go_wp2_with (first
              | (rw [HX.out])
              | (go_at_call 13; go_must (refine ADC.out.mono ?_); rintro e w6 ⟨rfl, hc6, hg6⟩; go_must (have HC6 := keepG hc6; obtain ⟨n6, o6, HU⟩ := UPX hc6; have NOWC := keepG (HC6.out.ec |> lnow); rw [HU.out.d] at NOWC; have OLDC := keepG (loldest HC6.out.ec HC6.out.ok.len.2 (show Hid _ from HU.out.e)); have t1 := HU.out.f; have t2 := HU.out.g; have t3 := HU.out.h; have t4 := HU.out.i; have s1 : ¬ n6 < nw := (by omega); have s2 : ¬ o6 < ol := (by omega); have s3 : ¬ n6 < o6 := (by omega); have s4 : ¬ o6 > n6 := (by omega); clear t1 t2 t3 hc6 hg6))
              | (go_at_call 20; go_must (refine NOWC.out.mono ?_); rintro e w7 ⟨rfl, rfl⟩)
              | (go_at_call 19; go_must (refine OLDC.out.mono ?_); rintro e w7 ⟨rfl, rfl⟩))
            go_roundw
            case rel => exact ⟨j + 1, n6, o6, by omega, rfl, rfl, by go_num, by omega, by omega, c6, HC6.out, HU.out.d, HU.out.e⟩
            case measure => simp [intOf]; omega
          · have hb0 : (ok == 0) = false := by simpa using hk0
            have hb1 : (ok == 1) = false := by simpa using hk1
            have hb2 : (ok == 2) = false := by simpa using hk2
            have hc6 := HCX.out
            obtain ⟨c6, HD⟩ : ∃ c6, Hid (ck = c6) := ⟨_, rfl⟩
            rw [HD.out] at hc6
            have UPX : ∀ {w7 : World}, Cl w w7 b g c6 → ∃ n6 o6, Hid (Up ck c6 nw ol n6 o6 j) := fun _ => Up.mk' HN0.out.1 HN0.out.2 (by rw [HD.out]; exact Int.le_refl _) (by rw [HD.out]; exact Int.le_refl _) (by rw [← HD.out]; have := HN0.out.1; omega)
            have hg6 : True := trivial
            have HC6 := keepG hc6
            obtain ⟨n6, o6, HU⟩ := UPX hc6
            have NOWC := keepG (HC6.out.ec |> lnow)
            rw [HU.out.d] at NOWC
            have OLDC := keepG (loldest HC6.out.ec HC6.out.ok.len.2 (show Hid _ from HU.out.e))
            have t1 := HU.out.f
            have t2 := HU.out.g
            have t3 := HU.out.h
            have t4 := HU.out.i
            have s1 : ¬ n6 < nw := (by omega)
            have s2 : ¬ o6 < ol := (by omega)
            have s3 : ¬ n6 < o6 := (by omega)
            have s4 : ¬ o6 > n6 := (by omega)
            clear t1 t2 t3 hc6 hg6
            go_wp2_with (first
              | (rw [HX.out])
              | (go_at_call 20; go_must (refine NOWC.out.mono ?_); rintro e w7 ⟨rfl, rfl⟩)
              | (go_at_call 19; go_must (refine OLDC.out.mono ?_); rintro e w7 ⟨rfl, rfl⟩))
            go_roundw
            case rel => exact ⟨j + 1, n6, o6, by omega, rfl, rfl, by go_num, by omega, by omega, c6, HC6.out, HU.out.d, HU.out.e⟩
            case measure => simp [intOf]; omega
    · have hltI : ¬ (j : Int) < is.length := by omega
      have hw1d : decide (1 ≤ nw) = true := by simpa using hw1
      go_wp2
      go_ret
      exact ⟨rfl, HM.out.1.be⟩
/-- EpochRises. -/
theorem epochRises_walk (n : Int) (sv : Value) (is : List Ow) (w : World) {P0 : Prop} (_ : P0) (hs : Scr w sv is) (hlen : is.length * 40 ≤ 140737488351232 ∧ ∀ x ∈ is, x.ws.length * 8 ≤ 140737488351232) :
    Calls Try.prog 6 #[.int .i64 n, sv] w fun e w' => e = .returned (.bool true) ∧ Below w.heap.size w w' := by
  by_cases h : n < 1 ∨ 4 < n
  · exact epochRises_no n sv w h
  · obtain ⟨m, rfl⟩ : ∃ m : Nat, n = m := ⟨n.toNat, by omega⟩
    exact epochRises_ok m (by omega) (by omega) sv is w hs hlen.1
end Go.Proofs.Ytkcbiiiakkpegaa
