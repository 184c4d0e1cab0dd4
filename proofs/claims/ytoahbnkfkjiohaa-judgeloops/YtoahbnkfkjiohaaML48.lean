/-
  JJudge
  JRun
-/
import Derived.Test.YtoahbnkfkjiohaaML47
/-
  What the landed Judge answers. No condition beyond the argument's reading.
-/
namespace Go.Proofs.Ytoahbnkfkjiohaa
open Go.RowKit
set_option linter.unusedVariables false
set_option linter.unusedSimpArgs false
set_option maxRecDepth 100000

/-- What is known at the places, or the place and the error. -/
def inqR (ms : List Int) (xs : List In) : Except (Int × Int) Kn :=
  if mapsJ ms = false then .error (0, 2) else if errL xs ≠ 0 then .error ((checkL xs).1, errL xs)
  else match runK xs ms.length xs.length with
    | .error e => .error (e.1, e.2)
    | .ok K => .ok K
def judgeR (ms : List Int) (xs : List In) : Int × Int := match inqR ms xs with | .error e => e | .ok _ => (0, 0)
theorem first_lt {p : Nat → Bool} {n k : Nat} (h : first p n = some k) : k < n := by
  unfold first at h
  exact List.mem_range.1 (List.mem_of_find?_eq_some h)
theorem crossF_mem : ∀ (r prev : List Lp) (t : Int), crossF prev r = some t → ∃ l ∈ r, l.t = t
  | [], prev, t, h => by simp [crossF] at h
  | x :: r, prev, t, h => by
    rw [crossF] at h
    split at h
    · injection h with h; exact ⟨x, by simp, h⟩
    · obtain ⟨l, hl, e⟩ := crossF_mem r _ t h; exact ⟨l, by simp [hl], e⟩
theorem check_place (xs : List In) : 0 ≤ (checkL xs).1 ∧ ((checkL xs).1 = 0 ∨ (checkL xs).1 < xs.length) := by
  unfold checkL
  split
  · exact ⟨by decide, .inl rfl⟩
  split
  · exact ⟨by decide, .inl rfl⟩
  split
  · rename_i k hk
    have := first_lt hk
    exact ⟨by simp, .inr (by simp; omega)⟩
  split
  · rename_i t ht
    obtain ⟨l, hl, rfl⟩ := crossF_mem _ _ _ ht
    obtain ⟨k, hk, _, rfl⟩ := loopsU_mem.1 hl
    exact ⟨by simp [lpAt], .inr (by simp [lpAt]; omega)⟩
  split
  · rename_i k hk
    have := first_lt hk
    exact ⟨by simp, .inr (by simp; omega)⟩
  split
  · exact ⟨by decide, .inl rfl⟩
  · exact ⟨by decide, .inl rfl⟩
set_option maxHeartbeats 800000 in
theorem linq_maps (vm vc : Value) (ms : List Int) (w : World) (hm : Sees .i64 w vm ms) (hmf : Hid (mapsJ ms = false)) :
    Calls Try.prog 12 #[.agg #[vm, vc]] w fun e w' => e = .returned (.tuple #[.slice none 0 0, .int .i64 0, .int .i64 2]) ∧ Below w.heap.size w w' := by
  have HM := keepJ hm
  obtain ⟨ma, mcap, rfl⟩ : ∃ a c, vm = .slice a ms.length c := by obtain ⟨a, c, h, _⟩ := hm; exact ⟨a, c, h⟩
  go_enter Try.func12, Try.ntmps12
  go_wp2_with (go_at_call 15; go_must (refine (lmapsFit_any _ ms _ (HM.out.below ((Below.refl _ _).alloc (Nat.le_refl _) _) (Nat.le_refl _)) hmf).mono ?_); rintro e w' ⟨rfl, rfl⟩)
  go_ret3
  exact ⟨rfl, by go_grown⟩
set_option maxHeartbeats 800000 in
theorem linq_flow (vm : Value) (ms : List Int) (vc : Value) (xs : List In) (w : World) (hm : Sees .i64 w vm ms) (hx : SeesI w vc xs) (hmf : Hid (mapsJ ms = true)) {P E : Int} (hP : Hid (P = (checkL xs).1)) (hE : Hid (E = errL xs)) (hE0 : E ≠ 0) :
    Calls Try.prog 12 #[.agg #[vm, vc]] w fun e w' => e = .returned (.tuple #[.slice none 0 0, .int .i64 P, .int .i64 E]) ∧ Below w.heap.size w w' := by
  have HM := keepJ hm
  have HX := keepJ hx
  obtain ⟨ma, mcap, rfl⟩ : ∃ a c, vm = .slice a ms.length c := by obtain ⟨a, c, h, _⟩ := hm; exact ⟨a, c, h⟩
  obtain ⟨ca, ccap, rfl⟩ : ∃ a c, vc = .slice a xs.length c := by obtain ⟨a, c, h, _⟩ := hx; exact ⟨a, c, h⟩
  have hE1 : ¬ E = 0 := hE0
  clear hm hx hE0
  go_enter Try.func12, Try.ntmps12
  go_wp2_with (first
    | (go_at_call 15; go_must (refine (lmapsFit_any _ ms _ (HM.out.below ((Below.refl _ _).alloc (Nat.le_refl _) _) (Nat.le_refl _)) hmf).mono ?_); rintro e w' ⟨rfl, rfl⟩)
    | (go_at_call 16; go_must (refine (check_as (HX.out.below ((Below.refl _ _).alloc (Nat.le_refl _) _)) hP hE).mono ?_); rintro e w2 ⟨rfl, hb2⟩; go_must (have hB2 := box_below hb2; clear hb2)))
  go_ret3
  exact ⟨rfl, hB2⟩
/-- The inquiry, whole. -/
theorem linquire_any (vm : Value) (ms : List Int) (vc : Value) (xs : List In) (w : World) (hm : Sees .i64 w vm ms) (hx : SeesI w vc xs) :
    Calls Try.prog 12 #[.agg #[vm, vc]] w fun e w' =>
      (∃ P E : Int, inqR ms xs = .error (P, E) ∧ E ≠ 0 ∧ (0 ≤ P ∧ (P = 0 ∨ P < xs.length)) ∧ e = .returned (.tuple #[.slice none 0 0, .int .i64 P, .int .i64 E]) ∧ Below w.heap.size w w') ∨
      (∃ (K : Kn) (kb : Nat), inqR ms xs = .ok K ∧ Taken xs ∧ mapsJ ms = true ∧ runK xs ms.length xs.length = .ok K ∧ e = .returned (.tuple #[.slice (some ⟨kb, 0, none⟩) xs.length xs.length, .int .i64 0, .int .i64 0]) ∧ Hp w' kb 54 (flatK K) ∧ w.heap.size ≤ kb ∧ K.length = xs.length ∧ MadeK ms.length K ∧ Below w.heap.size w w') := by
  unfold inqR
  cases hmf : mapsJ ms with
  | false =>
    refine (linq_maps vm vc ms w hm hmf).mono ?_
    rintro e w' ⟨rfl, hb⟩
    exact .inl ⟨0, 2, by simp, by decide, ⟨by decide, .inl rfl⟩, rfl, hb⟩
  | true =>
    by_cases hE : errL xs = 0
    · have hT : Taken xs := check_ok.1 hE
      obtain ⟨a, cap, hv, h1, h2, h3, h4⟩ := id hx
      obtain ⟨b, off, rfl, hlt, hat⟩ := h4 (fun e => by have := hT.pos; rw [e] at this; simp at this)
      subst hv
      refine (linq_run vm ms b off cap xs w hm hx hmf hE.symm).mono ?_
      rintro e w' (⟨p, E, hr, hE0, hp, rfl, hb⟩ | ⟨K, kb, hr, rfl, hk, hkb, hl, hM, hb⟩)
      · refine .inl ⟨p, E, ?_, hE0, ⟨by omega, .inr (by omega)⟩, rfl, hb⟩
        rw [if_neg (by simp), if_neg (by simp [hE]), hr]
      · refine .inr ⟨K, kb, ?_, hT, rfl, hr, rfl, hk, hkb, hl, hM, hb⟩
        rw [if_neg (by simp), if_neg (by simp [hE]), hr]
    · refine (linq_flow vm ms vc xs w hm hx hmf rfl rfl hE).mono ?_
      rintro e w' ⟨rfl, hb⟩
      exact .inl ⟨(checkL xs).1, errL xs, by rw [if_neg (by simp), if_pos hE], hE, check_place xs, rfl, hb⟩
set_option maxHeartbeats 800000 in
theorem ljudge_any (vm : Value) (ms : List Int) (vc : Value) (xs : List In) (w : World) (hm : Sees .i64 w vm ms) (hx : SeesI w vc xs) :
    Calls Try.prog 10 #[.agg #[vm, vc]] w fun e w' => ∃ P E : Int, judgeR ms xs = (P, E) ∧ (E = 0 ↔ ∃ K, inqR ms xs = .ok K) ∧ (0 ≤ P ∧ (P = 0 ∨ P < xs.length)) ∧ e = .returned (.tuple #[.int .i64 P, .int .i64 E]) ∧ Below w.heap.size w w' := by
  have HM := keepJ hm
  have HX := keepJ hx
  obtain ⟨ma, mcap, rfl⟩ : ∃ a c, vm = .slice a ms.length c := by obtain ⟨a, c, h, _⟩ := hm; exact ⟨a, c, h⟩
  obtain ⟨ca, ccap, rfl⟩ : ∃ a c, vc = .slice a xs.length c := by obtain ⟨a, c, h, _⟩ := hx; exact ⟨a, c, h⟩
  clear hm hx
  go_enter Try.func10, Try.ntmps10
  go_wp2_with (go_at_call 12; go_must (refine (linquire_any _ ms _ xs _ (HM.out.below ((Below.refl _ _).alloc (Nat.le_refl _) _) (Nat.le_refl _)) (HX.out.below ((Below.refl _ _).alloc (Nat.le_refl _) _))).mono ?_); rintro e w1 (⟨P, E, hi, hE0, hP, rfl, hb⟩ | ⟨K, kb, hi, hT, hmf, hr, rfl, hk, hkb, hl, hM, hb⟩) <;> (have HB := keepJ (box_below hb); have HI := keepJ hi; clear hb hi))
  · go_ret2
    exact ⟨P, E, by unfold judgeR; rw [HI.out], ⟨fun h => absurd h hE0, fun ⟨K, h⟩ => by rw [HI.out] at h; cases h⟩, hP, rfl, HB.out⟩
  · go_ret2
    exact ⟨0, 0, by unfold judgeR; rw [HI.out], ⟨fun _ => ⟨K, HI.out⟩, fun _ => rfl⟩, ⟨by decide, .inl rfl⟩, rfl, HB.out⟩
end Go.Proofs.Ytoahbnkfkjiohaa
/-
  What the push over the places comes to: what is known at a place stays behind it, a loop's head is known where its end is, and its end fits it. No Go text in sight.
-/
namespace Go.Proofs.Ytoahbnkfkjiohaa
set_option linter.unusedVariables false
set_option linter.unusedSimpArgs false

theorem goes_jump {i : In} (hr : i.right = true) (ho : 15 ≤ i.op ∧ i.op ≤ 19) : 1 ≤ i.far ∧ i.leads = true := by
  rcases goes_parts i with h | h | h | h
  · rw [hr] at h; cases h.1
  · exact ⟨by omega, h.2.2.2.2.1⟩
  · omega
  · omega
theorem no_enter {xs : List In} (hT : Taken xs) {k : Nat} (hk : k < xs.length) (hl : (nth xs k).leads = true) {l : Lp} (hm : l ∈ loopsL xs) {x : Int} (hx : x = k + (nth xs k).far) (h1 : l.h < x) (h2 : x ≤ l.t) : l.h ≤ k ∧ (k : Int) ≤ l.t := by
  have h := hT.intr k hk
  unfold intrB at h
  rw [hl, Bool.true_and, List.any_eq_false] at h
  have h3 := h l hm
  rw [enters_iff] at h3
  by_cases hc : l.h ≤ k ∧ (k : Int) ≤ l.t
  · exact hc
  · exact absurd ⟨hc, by omega, by omega⟩ h3
theorem kn_set_ne {K : Kn} {p x : Nat} {y : Bool × St} (h : x ≠ p) : (K.set p y).getD x kn0 = K.getD x kn0 := by
  simp [List.getD, List.getElem?_set, h, Ne.symm h]
theorem arr_ne {K : Kn} {p x : Nat} {r : Bool} {s : St} (h : x ≠ p) : (arrK K p r s).getD x kn0 = K.getD x kn0 := by
  unfold arrK
  split
  · rfl
  split
  · exact kn_set_ne h
  · exact kn_set_ne h
theorem kn_set_out {K : Kn} {p x : Nat} {y : Bool × St} (h : ¬ p < K.length) : (K.set p y).getD x kn0 = K.getD x kn0 := by
  rw [List.set_eq_of_length_le (by omega)]
/-- An arrival takes nothing away. -/
theorem arr_keeps {K : Kn} {p x : Nat} {r : Bool} {s : St} (h : (K.getD x kn0).1 = true) : ((arrK K p r s).getD x kn0).1 = true := by
  by_cases hx : x = p
  · subst hx
    unfold arrK
    split
    · exact h
    rename_i hr
    by_cases hl : x < K.length
    · split
      · rename_i h2; rw [h] at h2; cases h2
      · rw [kn_set hl]; exact h
    · split
      · rw [kn_set_out hl]; exact h
      · rw [kn_set_out hl]; exact h
  · rw [arr_ne hx]; exact h
/-- What is known behind an arrival was known, or is where it came to. -/
theorem arr_from {K : Kn} {p x : Nat} {r : Bool} {s : St} (h : ((arrK K p r s).getD x kn0).1 = true) : (K.getD x kn0).1 = true ∨ x = p := by
  by_cases hx : x = p
  · exact .inr hx
  · rw [arr_ne hx] at h; exact .inl h
theorem blur_at {xs : List In} {p x : Nat} {K : Kn} : ((blurK xs p K).getD x kn0).1 = (K.getD x kn0).1 := by
  unfold blurK
  by_cases hx : x = p
  · subst hx
    by_cases hl : x < K.length
    · rw [kn_set hl]
    · rw [kn_set_out hl]
  · rw [kn_set_ne hx]
theorem blur_ne {xs : List In} {p x : Nat} {K : Kn} (h : x ≠ p) : (blurK xs p K).getD x kn0 = K.getD x kn0 := kn_set_ne h
/-- Leaving a place changes higher places alone. -/
theorem leave_low {xs : List In} {p x : Nat} {K : Kn} (hr : (nth xs p).right = true) (hx : x ≤ p) : (leaveK (nth xs p) p K).getD x kn0 = K.getD x kn0 := by
  have hg := goes_parts (nth xs p)
  unfold leaveK
  split
  · rfl
  rename_i c22
  split
  · rename_i c15
    refine arr_ne ?_
    have hf := (goes_jump hr (by omega)).1
    omega
  rename_i c15
  split
  · rename_i c16
    have hf := (goes_jump hr (by omega)).1
    rw [arr_ne (by omega), arr_ne (by omega)]
  · exact arr_ne (by omega)
theorem leave_keeps {i : In} {p x : Nat} {K : Kn} (h : (K.getD x kn0).1 = true) : ((leaveK i p K).getD x kn0).1 = true := by
  unfold leaveK
  split
  · exact h
  split
  · exact arr_keeps h
  split
  · exact arr_keeps (arr_keeps h)
  · exact arr_keeps h
/-- What is known behind a place's leaving was known, or the place leads to it. -/
theorem leave_from {xs : List In} {p x : Nat} {K : Kn} (hr : (nth xs p).right = true) (h : ((leaveK (nth xs p) p K).getD x kn0).1 = true) : (K.getD x kn0).1 = true ∨ x = p + 1 ∨ ((nth xs p).leads = true ∧ (x : Int) = p + (nth xs p).far) := by
  have hg := goes_parts (nth xs p)
  unfold leaveK at h
  split at h
  · exact .inl h
  split at h
  · rename_i c15
    rcases arr_from h with h | h
    · exact .inl h
    · have hf := goes_jump hr (by omega)
      exact .inr (.inr ⟨hf.2, by omega⟩)
  split at h
  · rename_i c16
    have hf := goes_jump hr (by omega)
    rcases arr_from h with h | h
    · rcases arr_from h with h | h
      · exact .inl h
      · exact .inr (.inl h)
    · exact .inr (.inr ⟨hf.2, by omega⟩)
  · rcases arr_from h with h | h
    · exact .inl h
    · exact .inr (.inl h)
theorem run_step {xs : List In} {nm n : Nat} {K : Kn} (h : runK xs nm (n + 1) = .ok K) : ∃ K0, runK xs nm n = .ok K0 ∧ stepK xs nm n K0 = .ok K := by
  rw [runK] at h
  cases h0 : runK xs nm n with
  | error e => rw [h0] at h; cases h
  | ok K0 =>
    rw [h0] at h
    simp only at h
    cases h1 : stepK xs nm n K0 with
    | error e => rw [h1] at h; cases h
    | ok K1 => rw [h1] at h; simp only at h; injection h with h; subst h; exact ⟨K0, rfl, h1⟩
theorem step_cases {xs : List In} {nm p : Nat} {K K' : Kn} (h : stepK xs nm p K = .ok K') : ((K.getD p kn0).1 = false ∧ K' = K) ∨ ((K.getD p kn0).1 = true ∧ askE xs nm p (blurK xs p K) = 0 ∧ K' = leaveK (nth xs p) p (blurK xs p K)) := by
  unfold stepK at h
  split at h
  · rename_i h1; injection h with h; exact .inl ⟨h1, h.symm⟩
  · rename_i h1
    split at h
    · cases h
    · rename_i h2; injection h with h; exact .inr ⟨by simpa using h1, by simpa using h2, h.symm⟩
/-- A step leaves what lies below its place as it is. -/
theorem step_low {xs : List In} {nm p x : Nat} {K K' : Kn} (hr : (nth xs p).right = true) (h : stepK xs nm p K = .ok K') (hx : x < p) : K'.getD x kn0 = K.getD x kn0 := by
  rcases step_cases h with ⟨_, rfl⟩ | ⟨_, _, rfl⟩
  · rfl
  · rw [leave_low hr (by omega), blur_ne (by omega)]
/-- What is known at a place behind its step is known at the end. -/
theorem run_low {xs : List In} {nm : Nat} (hT : Taken xs) {p : Nat} : ∀ {n : Nat} {K : Kn}, n ≤ xs.length → p < n → runK xs nm n = .ok K → ∃ K0 K1, runK xs nm p = .ok K0 ∧ stepK xs nm p K0 = .ok K1 ∧ ∀ x, x ≤ p → K.getD x kn0 = K1.getD x kn0 := by
  intro n
  induction n with
  | zero => intro K _ hp; omega
  | succ n ih =>
    intro K hn hp h
    obtain ⟨K0, h0, h1⟩ := run_step h
    by_cases hpn : p = n
    · subst hpn; exact ⟨K0, K, h0, h1, fun x _ => rfl⟩
    · obtain ⟨A, B, ha, hb, hc⟩ := ih (by omega) (by omega) h0
      exact ⟨A, B, ha, hb, fun x hx => by rw [step_low (hT.right (by omega)) h1 (by omega)]; exact hc x hx⟩
/-- Where a loop's body is known its head is. -/
theorem run_heads {xs : List In} {nm : Nat} (hT : Taken xs) : ∀ {n : Nat} {K : Kn}, n ≤ xs.length → runK xs nm n = .ok K → (K.getD 0 kn0).1 = true ∧ ∀ l ∈ loopsL xs, ∀ x : Nat, l.h < x → (x : Int) ≤ l.t → (K.getD x kn0).1 = true → (K.getD l.h.toNat kn0).1 = true := by
  intro n
  induction n with
  | zero =>
    intro K _ h
    rw [runK] at h
    injection h with h
    subst h
    have hp := hT.pos
    refine ⟨?_, fun l hl x hx ht hk => ?_⟩
    · unfold arrK
      rw [if_neg (by simp), if_pos (by simp [List.getD, List.getElem?_replicate, hp]; rfl), kn_set (by simp; exact hp)]
    · rcases arr_from hk with hk | hk
      · exfalso
        rw [show (List.replicate xs.length kn0).getD x kn0 = kn0 by simp [List.getD, List.getElem?_replicate]; split <;> rfl] at hk
        cases hk
      · have := (hT.loops l hl).1
        omega
  | succ n ih =>
    intro K hn h
    obtain ⟨K0, h0, h1⟩ := run_step h
    obtain ⟨i0, i1⟩ := ih (by omega) h0
    have hr := hT.right (show n < xs.length by omega)
    rcases step_cases h1 with ⟨_, rfl⟩ | ⟨hn1, _, rfl⟩
    · exact ⟨i0, i1⟩
    · refine ⟨leave_keeps (by rw [blur_at]; exact i0), fun l hl x hx ht hk => leave_keeps (by
        rw [blur_at]
        have hlp := hT.loops l hl
        have hin : (K0.getD x kn0).1 = true ∨ x = n + 1 ∨ ((nth xs n).leads = true ∧ (x : Int) = n + (nth xs n).far) := by
          rcases leave_from hr hk with h | h
          · rw [blur_at] at h; exact .inl h
          · exact .inr h
        rcases hin with h | h | h
        · exact i1 l hl x hx ht h
        · by_cases hnh : (n : Int) = l.h
          · rw [← hnh]; simpa using hn1
          · exact i1 l hl n (by omega) (by omega) hn1
        · have hin := no_enter hT (by omega) h.1 hl h.2 hx ht
          by_cases hnh : (n : Int) = l.h
          · rw [← hnh]; simpa using hn1
          · exact i1 l hl n (by omega) hin.2 hn1)⟩
/-- At the end: the first place is known, and where a loop's end is known so is its head, and the end fits it. -/
theorem run_final {xs : List In} {nm : Nat} {K : Kn} (hT : Taken xs) (h : runK xs nm xs.length = .ok K) : (K.getD 0 kn0).1 = true ∧ ∀ p : Nat, p < xs.length → (K.getD p kn0).1 = true → (nth xs p).op = 20 → ∃ q : Nat, (q : Int) = p - (nth xs p).d ∧ q < p ∧ (K.getD q kn0).1 = true ∧ fitsAll (K.getD p kn0).2 (K.getD q kn0).2 = true := by
  obtain ⟨h0, hh⟩ := run_heads hT (Nat.le_refl _) h
  refine ⟨h0, fun p hp hk ho => ?_⟩
  have hr := hT.right hp
  have hpl := place_ok hp (hT.place p hp)
  have hg : (nth xs p).far = -(nth xs p).d ∧ 1 ≤ (nth xs p).d := by
    rcases goes_parts (nth xs p) with h | h | h | h
    · rw [hr] at h; cases h.1
    · omega
    · exact ⟨h.2.2.1, h.2.2.2.2.2.1⟩
    · omega
  have hq : ((p : Int) + (nth xs p).far).toNat < p := by omega
  refine ⟨((p : Int) + (nth xs p).far).toNat, by omega, hq, ?_, ?_⟩
  · have hm : lpAt xs p ∈ loopsL xs := loopsU_mem.2 ⟨p, hp, ho, rfl⟩
    exact hh _ hm p (by show (p : Int) + (nth xs p).far < p; omega) (Int.le_refl _) hk
  · obtain ⟨K0, K1, r0, s0, hlow⟩ := run_low hT (Nat.le_refl _) hp h
    rcases step_cases s0 with ⟨hf, rfl⟩ | ⟨hf, ha, rfl⟩
    · rw [hlow p (Nat.le_refl _), hf] at hk; cases hk
    · have e1 : K.getD p kn0 = (blurK xs p K0).getD p kn0 := by rw [hlow p (Nat.le_refl _), leave_low hr (Nat.le_refl _)]
      have e2 : K.getD ((p : Int) + (nth xs p).far).toNat kn0 = (blurK xs p K0).getD ((p : Int) + (nth xs p).far).toNat kn0 := by rw [hlow _ (by omega), leave_low hr (by omega)]
      rw [e1, e2]
      unfold askE asksJ at ha
      rw [if_neg (by omega), if_neg (by omega), if_neg (by omega), if_neg (by omega), if_neg (by omega), if_pos ho] at ha
      split at ha
      · cases ha
      split at ha
      · assumption
      · cases ha
end Go.Proofs.Ytoahbnkfkjiohaa
