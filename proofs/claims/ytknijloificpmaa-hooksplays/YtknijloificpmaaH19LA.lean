
/-
  The landed table of layer 19: its memory; New, has, taken, Fresh, Last, Current, publish, slices.Contains. Condition: it lies where the pointer says.
-/
import Derived.Test.YtknijloificpmaaH19DD
import Derived.Test.YtknijloificpmaaTk
namespace Go.Proofs.Ytknijloificpmaa
open Go.RowKit
set_option linter.unusedVariables false
set_option linter.unusedSimpArgs false
set_option maxRecDepth 100000

abbrev psC (s : Sl) : List Value := [.int .i64 s.v, .int .i64 s.p]
theorem psC_len (s : Sl) : (psC s).length = 2 := rfl
/-- The landed table, at a block; its row at another. -/
structure Lp (w : World) (b g : Nat) (t : Tb) : Prop where
  hp : Hp w b 41 [.int .i64 t.last, .slice (some ⟨g, 0, none⟩) t.at'.length t.at'.length]
  row : Hp w g 59 (flatG psC t.at')
def ftH (b g : Nat) : Ft := fun k => k = b ∨ k = g
section
variable {w w' : World} {b g : Nat} {t : Tb}
theorem Lp.below (h : Lp w b g t) (hb : Below w.heap.size w w') : Lp w' b g t := ⟨h.hp.below hb h.hp.lt, h.row.below hb h.row.lt⟩
theorem Lp.chg {S : Nat → Prop} (h : Lp w b g t) (hc : Chg w w' S) (ha : Apt S (ftH b g)) : Lp w' b g t := ⟨h.hp.chg hc (fun e => ha b e (.inl rfl)), h.row.chg hc (fun e => ha g e (.inr rfl))⟩
theorem Lp.apart (h : Lp w b g t) : b ≠ g := hp_type h.hp h.row (by decide)
theorem Lp.lies (h : Lp w b g t) : Lies w (ftH b g) := fun k hk => by rcases hk with e | e <;> rw [e]; exact h.hp.lt; exact h.row.lt
theorem Lp.low (h : Lp w b g t) : w.cell? ⟨b, 0, none⟩ = some (.int .i64 t.last) ∧ w.cell? ⟨b, 1, none⟩ = some (.slice (some ⟨g, 0, none⟩) t.at'.length t.at'.length) := ⟨h.hp.cell rfl, h.hp.cell rfl⟩
theorem Lp.at (h : Lp w b g t) {k : Nat} (hk : k < t.at'.length) : w.cell? ⟨g, k * 2, none⟩ = some (.int .i64 (t.slot k).v) ∧ w.cell? ⟨g, k * 2 + 1, none⟩ = some (.int .i64 (t.slot k).p) := by
  rw [Tb.slot_nat]
  exact ⟨h.row.cell (flatG_at psC_len Sl.nil t.at' (j := 0) hk (by decide)), h.row.cell (flatG_at psC_len Sl.nil t.at' (j := 1) hk (by decide))⟩
theorem Lp.put (h : Lp w b g t) {k : Nat} (hk : k < t.at'.length) (y : Sl) : Lp ((w.setCell ⟨g, k * 2, none⟩ (.int .i64 y.v)).setCell ⟨g, k * 2 + 1, none⟩ (.int .i64 y.p)) b g ⟨t.last, t.at'.set k y⟩ := by
  refine ⟨?_, ?_⟩
  · have := (h.hp.far (i := k * 2) (v := .int .i64 y.v) h.apart).far (i := k * 2 + 1) (v := .int .i64 y.p) h.apart
    simp only [List.length_set]
    exact this
  · have h1 := (h.row.set (k * 2) (.int .i64 y.v)).set (k * 2 + 1) (.int .i64 y.p)
    have e1 := flatG_set psC_len Sl.nil t.at' (k := k) (j := 0) (x := ⟨y.v, (t.at'.getD k Sl.nil).p⟩) (v := .int .i64 y.v) hk (by decide) rfl
    have e2 := flatG_set psC_len Sl.nil (t.at'.set k ⟨y.v, (t.at'.getD k Sl.nil).p⟩) (k := k) (j := 1) (x := y) (v := .int .i64 y.p) (by simpa using hk) (by decide) (by simp [List.getD, hk])
    rw [Nat.add_zero] at e1
    rw [e1, e2, List.set_set] at h1
    exact h1
theorem Lp.number (h : Lp w b g t) (la : Int) : Lp (w.setCell ⟨b, 0, none⟩ (.int .i64 la)) b g ⟨la, t.at'⟩ := ⟨h.hp.set 0 _, h.row.far (fun e => h.apart e.symm)⟩
theorem infoPost : (Try.prog.info? 59).map (fun i => (i.zero, i.size, i.bytes)) = some (some (.agg #[.int .i64 0, .int .i64 0]), 2, 16) := by kernel_rfl
theorem run_makeH (n : Nat) (hn : n ≤ 4) (w : World) : (Instr.makeSlice 39 (.int .i64 n) (.int .i64 n)).run Try.prog w = .ok (.slice (some ⟨w.heap.size, 0, none⟩) n n) (w.alloc (.cells (flatG psC (List.replicate n Sl.nil)).toArray 59)) := by
  obtain ⟨i, h1, h2, h3, h4⟩ := info_parts infoPost
  have := run_make (P := Try.prog) w 39 59 i _ Try.underlying39 h1 h2 .i64 .i64 n n (by omega) (Int.le_refl _) (by rw [h4]; omega) (by omega)
  rw [h3] at this
  have e0 : madeCells (Value.agg #[.int .i64 0, .int .i64 0]).cells (Int.toNat 0 * 2) = (flatG psC (List.replicate 0 Sl.nil)).toArray := by kernel_rfl
  have e1 : madeCells (Value.agg #[.int .i64 0, .int .i64 0]).cells (Int.toNat 1 * 2) = (flatG psC (List.replicate 1 Sl.nil)).toArray := by kernel_rfl
  have e2 : madeCells (Value.agg #[.int .i64 0, .int .i64 0]).cells (Int.toNat 2 * 2) = (flatG psC (List.replicate 2 Sl.nil)).toArray := by kernel_rfl
  have e3 : madeCells (Value.agg #[.int .i64 0, .int .i64 0]).cells (Int.toNat 3 * 2) = (flatG psC (List.replicate 3 Sl.nil)).toArray := by kernel_rfl
  have e4 : madeCells (Value.agg #[.int .i64 0, .int .i64 0]).cells (Int.toNat 4 * 2) = (flatG psC (List.replicate 4 Sl.nil)).toArray := by kernel_rfl
  have h5 : n = 0 ∨ n = 1 ∨ n = 2 ∨ n = 3 ∨ n = 4 := by omega
  have e : madeCells (Value.agg #[.int .i64 0, .int .i64 0]).cells (Int.toNat n * 2) = (flatG psC (List.replicate n Sl.nil)).toArray := by
    rcases h5 with rfl | rfl | rfl | rfl | rfl
    · exact e0
    · exact e1
    · exact e2
    · exact e3
    · exact e4
  rw [e] at this
  exact this
theorem lhnew_ok (n : Nat) (h1 : 1 ≤ n) (h2 : n ≤ 4) (w : World) : Calls Try.prog 8 #[.int .i64 n] w fun e w' => e = .returned (.tuple #[.pointer (some ⟨w.heap.size + 1, 0, none⟩), .int .i64 0]) ∧ Lp w' (w.heap.size + 1) w.heap.size (Tb.new n) ∧ Since w (ftH (w.heap.size + 1) w.heap.size) ∧ Below w.heap.size w w' := by
  have h1I : ¬ (n : Int) < 1 := by omega
  have h2I : ¬ (4 : Int) < n := by omega
  have hmk := run_makeH n h2 w
  obtain ⟨W1, HW1, HP1, HB1, HZ1⟩ : ∃ W1, Hid (w.alloc (.cells (flatG psC (List.replicate n Sl.nil)).toArray 59) = W1) ∧ Hid (Hp W1 w.heap.size 59 (flatG psC (List.replicate n Sl.nil))) ∧ Below w.heap.size w W1 ∧ Hid (W1.heap.size = w.heap.size + 1) := ⟨_, rfl, Hp.new w _ _, below_allocG _ _, by show _ = _; simp⟩
  rw [HW1.out] at hmk
  go_enter Try.func8, Try.ntmps8
  go_wp2
  go_ret2
  refine ⟨by simp only [HZ1.out]; rfl, ⟨by have := Hp.new W1 [.int .i64 0, .slice (some ⟨w.heap.size, 0, none⟩) n n] 41; rw [HZ1.out] at this; simp only [Tb.new, List.length_replicate]; exact this, HP1.out.alloc _⟩, fun k hk => ?_, HB1.alloc HB1.size _⟩
  rcases hk with e | e <;> omega
theorem lhnew_no (n : Int) (h : n < 1 ∨ 4 < n) (w : World) : Calls Try.prog 8 #[.int .i64 n] w fun e w' => e = .returned (.tuple #[.pointer none, .int .i64 2]) ∧ w = w' := by
  rcases h with h | h
  · go_enter Try.func8, Try.ntmps8
    go_wp2
    go_ret2
    exact ⟨rfl, rfl⟩
  · have h1 : ¬ n < 1 := by omega
    go_enter Try.func8, Try.ntmps8
    go_wp2
    go_ret2
    exact ⟨rfl, rfl⟩
theorem lhhas (h : Lp w b g t) (x : Int) {r : Bool} (HR : Hid (t.has x = r)) : Calls Try.prog 22 #[.pointer (some ⟨b, 0, none⟩), .int .i64 x] w fun e w' => e = .returned (.bool r) ∧ w = w' := by
  obtain ⟨c0, c1⟩ := h.low
  have hr := HR.out
  clear h
  by_cases h0 : 0 ≤ x
  · have h0d : decide (0 ≤ x) = true := by simpa using h0
    have : r = decide (x < t.at'.length) := by rw [← hr]; simp [Tb.has, h0]
    subst this
    clear HR hr
    go_enter Try.func22, Try.ntmps22
    go_wp2
    go_ret
    exact ⟨rfl, rfl⟩
  · have h0d : decide (0 ≤ x) = false := by simpa using h0
    have : r = false := by rw [← hr]; simp [Tb.has, h0]
    subst this
    clear HR hr
    go_enter Try.func22, Try.ntmps22
    go_wp2
    go_ret
    exact ⟨rfl, rfl⟩
theorem lhtaken (h : Lp w b g t) {k : Nat} (hk : k < t.at'.length) {r : Bool} (HR : Hid (t.taken k = r)) : Calls Try.prog 23 #[.pointer (some ⟨b, 0, none⟩), .int .i64 k] w fun e w' => e = .returned (.bool r) ∧ w = w' := by
  obtain ⟨c0, c1⟩ := h.low
  obtain ⟨d0, d1⟩ := h.at hk
  have hkI : (k : Int) < t.at'.length := by omega
  have hr := HR.out
  unfold Tb.taken at hr
  generalize (t.slot k).v = y at *
  clear h HR d1
  subst hr
  go_enter Try.func23, Try.ntmps23
  go_wp2
  go_ret
  exact ⟨rfl, rfl⟩
theorem lhfresh (h : Lp w b g t) (h0 : 0 ≤ t.last) (hl : t.last ≤ 1000000000000000) : Calls Try.prog 20 #[.pointer (some ⟨b, 0, none⟩)] w fun e w' => e = .returned (.int .i64 (t.last + 1)) ∧ Lp w' b g t.fresh ∧ Chg w w' (ftH b g) := by
  obtain ⟨c0, c1⟩ := h.low
  have f0 := h.hp.frozen 0
  have hw1 : IntKind.i64.wrap (t.last + 1) = t.last + 1 := by rw [IntKind.wrap_i64]; omega
  have HE := keepG (h.number (t.last + 1))
  clear h
  obtain ⟨nw, ins⟩ := t
  simp only at *
  go_enter Try.func20, Try.ntmps20
  go_wp2
  go_ret
  exact ⟨rfl, HE.out, (Chg.set w b 0 _).mono (fun k e => .inl e)⟩
theorem lhlast (h : Lp w b g t) : Calls Try.prog 10 #[.pointer (some ⟨b, 0, none⟩)] w fun e w' => e = .returned (.int .i64 t.last) ∧ w = w' := by
  obtain ⟨c0, c1⟩ := h.low
  clear h
  go_enter Try.func10, Try.ntmps10
  go_wp2
  go_ret
  exact ⟨rfl, rfl⟩
set_option maxHeartbeats 1600000 in
theorem lhcurrent (h : Lp w b g t) (hk : t.Ok) (x : Int) {cv cp : Int} {r : Bool} (HC : Hid (t.cur x = (cv, cp, r))) : Calls Try.prog 11 #[.pointer (some ⟨b, 0, none⟩), .int .i64 x] w fun e w' => e = .returned (.tuple #[.int .i64 cv, .int .i64 cp, .bool r]) ∧ Below w.heap.size w w' := by
  obtain ⟨c0, c1⟩ := h.low
  have HE := keepG h
  cases hh : t.has x with
  | false =>
    have hn : t.taken x = false := by unfold Tb.taken; rw [Tb.slot_no hh]; rfl
    have hc := HC.out
    rw [Tb.cur_no hk hn] at hc
    injection hc with e1 hc
    injection hc with e2 e3
    subst e1 e2 e3
    have HH := keepG hh
    clear h hh HC hn
    go_enter Try.func11, Try.ntmps11
    go_wp2_with (go_at_call 22; go_must (refine (lhhas HE.out x HH).mono ?_); rintro e w1 ⟨rfl, rfl⟩)
    go_ret3
    exact ⟨rfl, Below.refl _ _⟩
  | true =>
    obtain ⟨k, rfl, hk2⟩ := Tb.has_nat hh
    obtain ⟨d0, d1⟩ := h.at hk2
    have HH := keepG hh
    have hkI : (k : Int) < t.at'.length := by omega
    have hc := HC.out
    cases hn : t.taken k with
    | false =>
      rw [Tb.cur_no hk hn] at hc
      injection hc with e1 hc
      injection hc with e2 e3
      subst e1 e2 e3
      have HN := keepG hn
      clear h hh HC hn d0 d1
      go_enter Try.func11, Try.ntmps11
      go_wp2_with (first | (go_at_call 22; go_must (refine (lhhas HE.out _ HH).mono ?_); rintro e w1 ⟨rfl, rfl⟩) | (go_at_call 23; go_must (refine (lhtaken HE.out hk2 HN).mono ?_); rintro e w1 ⟨rfl, rfl⟩))
      go_ret3
      exact ⟨rfl, Below.refl _ _⟩
    | true =>
      unfold Tb.cur at hc
      rw [hn] at hc
      injection hc with e1 hc
      injection hc with e2 e3
      rw [e1] at d0
      rw [e2] at d1
      subst e3
      have HN := keepG hn
      clear h hh HC hn e1 e2
      go_enter Try.func11, Try.ntmps11
      go_wp2_with (first | (go_at_call 22; go_must (refine (lhhas HE.out _ HH).mono ?_); rintro e w1 ⟨rfl, rfl⟩) | (go_at_call 23; go_must (refine (lhtaken HE.out hk2 HN).mono ?_); rintro e w1 ⟨rfl, rfl⟩))
      refine wp_region_held_drew (S := fun w' => w'.cell? ⟨b, 1, none⟩ = some (.slice (some ⟨g, 0, none⟩) t.at'.length t.at'.length) ∧ w'.cell? ⟨g, k * 2, none⟩ = some (.int .i64 cv) ∧ w'.cell? ⟨g, k * 2 + 1, none⟩ = some (.int .i64 cp)) (by kernel_rfl) ⟨c1, d0, d1⟩ (fun hHeld => ?_)
      refine wpAnyH_take (i := 0) (v := ?v1) rfl (by kernel_rfl) (by kernel_rfl) (by kernel_rfl) (fun _ _ _ h => h) (Or.inl ⟨by rfl, ?hy1⟩) (by assumption) ?rest1
      case hy1 => (intro wy hSw; (try dsimp only at hSw); go_simp; (first | done | with_reducible rfl))
      try simp only [Act.put, List.getElem_toArray, List.getElem_cons_zero, List.getElem_cons_succ, List.setIfInBounds_toArray, List.set_cons_zero, List.set_cons_succ]
      refine wpAnyH_take (i := 1) (v := ?v2) rfl (by kernel_rfl) (by kernel_rfl) (by kernel_rfl) (fun _ _ _ h => h) (Or.inl ⟨by rfl, ?hy2⟩) (by assumption) ?rest2
      case hy2 => (intro wy hSw; (try dsimp only at hSw); go_simp; (first | done | with_reducible rfl))
      try simp only [Act.put, List.getElem_toArray, List.getElem_cons_zero, List.getElem_cons_succ, List.setIfInBounds_toArray, List.set_cons_zero, List.set_cons_succ]
      refine wpAnyH_take (i := 2) (v := ?v3) rfl (by kernel_rfl) (by kernel_rfl) (by kernel_rfl) (fun _ _ _ h => h) (Or.inl ⟨by rfl, ?hy3⟩) (by assumption) ?rest3
      case hy3 => (intro wy hSw; (try dsimp only at hSw); go_simp; (first | done | with_reducible rfl))
      try simp only [Act.put, List.getElem_toArray, List.getElem_cons_zero, List.getElem_cons_succ, List.setIfInBounds_toArray, List.set_cons_zero, List.set_cons_succ]
      refine wpAnyH_take (i := 3) (v := ?v4) rfl (by kernel_rfl) (by kernel_rfl) (by kernel_rfl) (fun _ _ _ h => h) (Or.inl ⟨by rfl, ?hy4⟩) (by assumption) ?rest4
      case hy4 => (intro wy hSw; (try dsimp only at hSw); go_simp; (first | done | with_reducible rfl))
      try simp only [Act.put, List.getElem_toArray, List.getElem_cons_zero, List.getElem_cons_succ, List.setIfInBounds_toArray, List.set_cons_zero, List.set_cons_succ]
      refine wpAnyH_take (i := 4) (v := ?v5) rfl (by kernel_rfl) (by kernel_rfl) (by kernel_rfl) (fun _ _ _ h => h) (Or.inl ⟨by rfl, ?hy5⟩) (by assumption) ?rest5
      case hy5 => (intro wy hSw; (try dsimp only at hSw); go_simp; (first | done | with_reducible rfl))
      try simp only [Act.put, List.getElem_toArray, List.getElem_cons_zero, List.getElem_cons_succ, List.setIfInBounds_toArray, List.set_cons_zero, List.set_cons_succ]
      refine wpAnyH_take (i := 5) (v := ?v6) rfl (by kernel_rfl) (by kernel_rfl) (by kernel_rfl) (fun _ _ _ h => h) (Or.inl ⟨by rfl, ?hy6⟩) (by assumption) ?rest6
      case hy6 => (intro wy hSw; (try dsimp only at hSw); go_simp; (first | done | with_reducible rfl))
      try simp only [Act.put, List.getElem_toArray, List.getElem_cons_zero, List.getElem_cons_succ, List.setIfInBounds_toArray, List.set_cons_zero, List.set_cons_succ]
      refine wpAnyH_take (i := 6) (v := ?v7) rfl (by kernel_rfl) (by kernel_rfl) (by kernel_rfl) (fun _ _ _ h => h) (Or.inl ⟨by rfl, ?hy7⟩) (by assumption) ?rest7
      case hy7 => (intro wy hSw; (try dsimp only at hSw); go_simp; (first | done | with_reducible rfl))
      try simp only [Act.put, List.getElem_toArray, List.getElem_cons_zero, List.getElem_cons_succ, List.setIfInBounds_toArray, List.set_cons_zero, List.set_cons_succ]
      refine wpAnyH_take (i := 7) (v := ?v8) rfl (by kernel_rfl) (by kernel_rfl) (by kernel_rfl) (fun _ _ _ h => h) (Or.inl ⟨by rfl, ?hy8⟩) (by assumption) ?rest8
      case hy8 => (intro wy hSw; (try dsimp only at hSw); go_simp; (first | done | with_reducible rfl))
      try simp only [Act.put, List.getElem_toArray, List.getElem_cons_zero, List.getElem_cons_succ, List.setIfInBounds_toArray, List.set_cons_zero, List.set_cons_succ]
      refine wpAnyH_take (i := 8) (v := ?v9) rfl (by kernel_rfl) (by kernel_rfl) (by kernel_rfl) (fun _ _ _ h => h) (Or.inl ⟨by rfl, ?hy9⟩) (by assumption) ?rest9
      case hy9 => (intro wy hSw; (try dsimp only at hSw); go_simp; (first | done | with_reducible rfl))
      try simp only [Act.put, List.getElem_toArray, List.getElem_cons_zero, List.getElem_cons_succ, List.setIfInBounds_toArray, List.set_cons_zero, List.set_cons_succ]
      refine wpAnyH_take (i := 9) (v := ?v10) rfl (by kernel_rfl) (by kernel_rfl) (by kernel_rfl) (fun _ _ _ h => h) (Or.inl ⟨by rfl, ?hy10⟩) (by assumption) ?rest10
      case hy10 => (intro wy hSw; (try dsimp only at hSw); go_simp; (first | done | with_reducible rfl))
      try simp only [Act.put, List.getElem_toArray, List.getElem_cons_zero, List.getElem_cons_succ, List.setIfInBounds_toArray, List.set_cons_zero, List.set_cons_succ]
      refine wpAnyH_take (i := 10) (v := ?v11) rfl (by kernel_rfl) (by kernel_rfl) (by kernel_rfl) (fun _ _ _ h => h) (Or.inl ⟨by rfl, ?hy11⟩) (by assumption) ?rest11
      case hy11 => (intro wy hSw; (try dsimp only at hSw); go_simp; (first | done | with_reducible rfl))
      try simp only [Act.put, List.getElem_toArray, List.getElem_cons_zero, List.getElem_cons_succ, List.setIfInBounds_toArray, List.set_cons_zero, List.set_cons_succ]
      refine wpAnyH_take (i := 11) (v := ?v12) rfl (by kernel_rfl) (by kernel_rfl) (by kernel_rfl) (fun _ _ _ h => h) (Or.inl ⟨by rfl, ?hy12⟩) (by assumption) ?rest12
      case hy12 => (intro wy hSw; (try dsimp only at hSw); go_simp; (first | done | with_reducible rfl))
      try simp only [Act.put, List.getElem_toArray, List.getElem_cons_zero, List.getElem_cons_succ, List.setIfInBounds_toArray, List.set_cons_zero, List.set_cons_succ]
      refine wpAnyH_take (i := 12) (v := ?v13) rfl (by kernel_rfl) (by kernel_rfl) (by kernel_rfl) (fun _ _ _ h => h) (Or.inl ⟨by rfl, ?hy13⟩) (by assumption) ?rest13
      case hy13 => (intro wy hSw; (try dsimp only at hSw); go_simp; (first | done | with_reducible rfl))
      try simp only [Act.put, List.getElem_toArray, List.getElem_cons_zero, List.getElem_cons_succ, List.setIfInBounds_toArray, List.set_cons_zero, List.set_cons_succ]
      refine wpAnyH_take (i := 13) (v := ?v14) rfl (by kernel_rfl) (by kernel_rfl) (by kernel_rfl) (fun _ _ _ h => h) (Or.inl ⟨by rfl, ?hy14⟩) (by assumption) ?rest14
      case hy14 => (intro wy hSw; (try dsimp only at hSw); go_simp; (first | done | with_reducible rfl))
      try simp only [Act.put, List.getElem_toArray, List.getElem_cons_zero, List.getElem_cons_succ, List.setIfInBounds_toArray, List.set_cons_zero, List.set_cons_succ]
      refine wpAnyH_take (i := 14) (v := ?v15) rfl (by kernel_rfl) (by kernel_rfl) (by kernel_rfl) (fun _ _ _ h => h) (Or.inl ⟨by rfl, ?hy15⟩) (by assumption) ?rest15
      case hy15 => (intro wy hSw; (try dsimp only at hSw); go_simp; (first | done | with_reducible rfl))
      try simp only [Act.put, List.getElem_toArray, List.getElem_cons_zero, List.getElem_cons_succ, List.setIfInBounds_toArray, List.set_cons_zero, List.set_cons_succ]
      refine wpAnyH_take (i := 15) (v := ?v16) rfl (by kernel_rfl) (by kernel_rfl) (by kernel_rfl) (fun _ _ _ h => h) (Or.inl ⟨by rfl, ?hy16⟩) (by assumption) ?rest16
      case hy16 => (intro wy hSw; (try dsimp only at hSw); go_simp; (first | done | with_reducible rfl))
      try simp only [Act.put, List.getElem_toArray, List.getElem_cons_zero, List.getElem_cons_succ, List.setIfInBounds_toArray, List.set_cons_zero, List.set_cons_succ]
      refine wpAnyH_take (i := 16) (v := ?v17) rfl (by kernel_rfl) (by kernel_rfl) (by kernel_rfl) (fun _ _ _ h => h) (Or.inl ⟨by rfl, ?hy17⟩) (by assumption) ?rest17
      case hy17 => (intro wy hSw; (try dsimp only at hSw); go_simp; (first | done | with_reducible rfl))
      try simp only [Act.put, List.getElem_toArray, List.getElem_cons_zero, List.getElem_cons_succ, List.setIfInBounds_toArray, List.set_cons_zero, List.set_cons_succ]
      refine wpAnyH_take (i := 17) (v := ?v18) rfl (by kernel_rfl) (by kernel_rfl) (by kernel_rfl) (fun _ _ _ h => h) (Or.inl ⟨by rfl, ?hy18⟩) (by assumption) ?rest18
      case hy18 => (intro wy hSw; (try dsimp only at hSw); go_simp; (first | done | with_reducible rfl))
      try simp only [Act.put, List.getElem_toArray, List.getElem_cons_zero, List.getElem_cons_succ, List.setIfInBounds_toArray, List.set_cons_zero, List.set_cons_succ]
      refine wpAnyH_take (i := 18) (v := ?v19) rfl (by kernel_rfl) (by kernel_rfl) (by kernel_rfl) (fun _ _ _ h => h) (Or.inl ⟨by rfl, ?hy19⟩) (by assumption) ?rest19
      case hy19 => (intro wy hSw; (try dsimp only at hSw); go_simp; (first | done | with_reducible rfl))
      try simp only [Act.put, List.getElem_toArray, List.getElem_cons_zero, List.getElem_cons_succ, List.setIfInBounds_toArray, List.set_cons_zero, List.set_cons_succ]
      refine wpAnyH_done (by kernel_rfl) ?_ _
      clear hHeld
      go_wp2
      go_ret3
      exact ⟨rfl, below_drG (Below.refl _ _)⟩
set_option maxHeartbeats 1600000 in
theorem lhpublish (h : Lp w b g t) (h0 : 0 ≤ t.last) (hl : t.last ≤ 1000000000000000) {k : Nat} (hk : k < t.at'.length) (p : Int) : Calls Try.prog 24 #[.pointer (some ⟨b, 0, none⟩), .int .i64 k, .int .i64 p] w fun e w' => e = .returned (.int .i64 (t.last + 1)) ∧ Lp w' b g (t.pub k p) ∧ Chg w w' (ftH b g) := by
  have HE := keepG h
  have HF := keepG (lhfresh h h0 hl)
  have hkI : (k : Int) < t.at'.length := by omega
  clear h
  go_enter Try.func24, Try.ntmps24
  go_wp2_with (go_at_call 20; go_must (refine HF.out.mono ?_); rintro e w1 ⟨rfl, g1, g2⟩; go_must (have HE1 := keepG g1; have HC1 := keepG g2; obtain ⟨c0, c1⟩ := g1.low; obtain ⟨d0, d1⟩ := g1.at (k := k) hk; have f0 := g1.row.frozen (k * 2); have f1 := g1.row.frozen (k * 2 + 1); simp only [Tb.fresh] at c0 c1; generalize ((t.fresh).slot k).v = y0 at d0; generalize ((t.fresh).slot k).p = y1 at d1; clear g1 g2))
  go_ret
  refine ⟨rfl, ?_, ?_⟩
  · exact HE1.out.put hk ⟨t.last + 1, p⟩
  · exact (HC1.out.trans (Chg.set _ g (k * 2) _) (fun _ _ e => .inr e)).trans (Chg.set _ g (k * 2 + 1) _) (fun _ _ e => .inr e)
end
end Go.Proofs.Ytknijloificpmaa
