/-
  JRun
  JMore
  JJudge
-/
import Derived.Test.YtkcofelpndlplaaML46
import Derived.Test.YtkcofelpndlplaaML10
/-
  What the push over the places comes to: what is known at a place stays behind it, a loop's head is known where its end is, and its end fits it. No Go text in sight.
-/
namespace Go.Proofs.Ytkcofelpndlplaa
set_option linter.unusedVariables false
set_option linter.unusedSimpArgs false

theorem goes_jump {i : In} (hr : i.right = true) (ho : 15 ≤ i.op ∧ i.op ≤ 19) : 1 ≤ i.far ∧ i.leads = true := by
  rcases goes_parts i with h | h | h | h
  · rw [hr] at h; cases h.1
  · exact ⟨by omega, h.2.2.2.2.1⟩
  · omega
  · omega
theorem no_enter {xs : List In} (hT : Taken xs) {k : Nat} (hk : k < xs.length) (hl : (nth xs k).leads = true) {l : Lp} (hm : l ∈ loopsL xs) {x : Int} (hx : x = k + (nth xs k).far) (h1 : l.h < x) (h2 : x ≤ l.t) : l.h ≤ k ∧ (k : Int) ≤ l.t := by
  have h := hT.intr k hk
  unfold intrB at h
  rw [hl, Bool.true_and, List.any_eq_false] at h
  have h3 := h l hm
  rw [enters_iff] at h3
  by_cases hc : l.h ≤ k ∧ (k : Int) ≤ l.t
  · exact hc
  · exact absurd ⟨hc, by omega, by omega⟩ h3
theorem kn_set_ne {K : Kn} {p x : Nat} {y : Bool × St} (h : x ≠ p) : (K.set p y).getD x kn0 = K.getD x kn0 := by
  simp [List.getD, List.getElem?_set, h, Ne.symm h]
theorem arr_ne {K : Kn} {p x : Nat} {r : Bool} {s : St} (h : x ≠ p) : (arrK K p r s).getD x kn0 = K.getD x kn0 := by
  unfold arrK
  split
  · rfl
  split
  · exact kn_set_ne h
  · exact kn_set_ne h
theorem kn_set_out {K : Kn} {p x : Nat} {y : Bool × St} (h : ¬ p < K.length) : (K.set p y).getD x kn0 = K.getD x kn0 := by
  rw [List.set_eq_of_length_le (by omega)]
/-- An arrival takes nothing away. -/
theorem arr_keeps {K : Kn} {p x : Nat} {r : Bool} {s : St} (h : (K.getD x kn0).1 = true) : ((arrK K p r s).getD x kn0).1 = true := by
  by_cases hx : x = p
  · subst hx
    unfold arrK
    split
    · exact h
    rename_i hr
    by_cases hl : x < K.length
    · split
      · rename_i h2; rw [h] at h2; cases h2
      · rw [kn_set hl]; exact h
    · split
      · rw [kn_set_out hl]; exact h
      · rw [kn_set_out hl]; exact h
  · rw [arr_ne hx]; exact h
/-- What is known behind an arrival was known, or is where it came to. -/
theorem arr_from {K : Kn} {p x : Nat} {r : Bool} {s : St} (h : ((arrK K p r s).getD x kn0).1 = true) : (K.getD x kn0).1 = true ∨ x = p := by
  by_cases hx : x = p
  · exact .inr hx
  · rw [arr_ne hx] at h; exact .inl h
theorem blur_at {xs : List In} {p x : Nat} {K : Kn} : ((blurK xs p K).getD x kn0).1 = (K.getD x kn0).1 := by
  unfold blurK
  by_cases hx : x = p
  · subst hx
    by_cases hl : x < K.length
    · rw [kn_set hl]
    · rw [kn_set_out hl]
  · rw [kn_set_ne hx]
theorem blur_ne {xs : List In} {p x : Nat} {K : Kn} (h : x ≠ p) : (blurK xs p K).getD x kn0 = K.getD x kn0 := kn_set_ne h
/-- Leaving a place changes higher places alone. -/
theorem leave_low {xs : List In} {p x : Nat} {K : Kn} (hr : (nth xs p).right = true) (hx : x ≤ p) : (leaveK (nth xs p) p K).getD x kn0 = K.getD x kn0 := by
  have hg := goes_parts (nth xs p)
  unfold leaveK
  split
  · rfl
  rename_i c22
  split
  · rename_i c15
    refine arr_ne ?_
    have hf := (goes_jump hr (by omega)).1
    omega
  rename_i c15
  split
  · rename_i c16
    have hf := (goes_jump hr (by omega)).1
    rw [arr_ne (by omega), arr_ne (by omega)]
  · exact arr_ne (by omega)
theorem leave_keeps {i : In} {p x : Nat} {K : Kn} (h : (K.getD x kn0).1 = true) : ((leaveK i p K).getD x kn0).1 = true := by
  unfold leaveK
  split
  · exact h
  split
  · exact arr_keeps h
  split
  · exact arr_keeps (arr_keeps h)
  · exact arr_keeps h
/-- What is known behind a place's leaving was known, or the place leads to it. -/
theorem leave_from {xs : List In} {p x : Nat} {K : Kn} (hr : (nth xs p).right = true) (h : ((leaveK (nth xs p) p K).getD x kn0).1 = true) : (K.getD x kn0).1 = true ∨ x = p + 1 ∨ ((nth xs p).leads = true ∧ (x : Int) = p + (nth xs p).far) := by
  have hg := goes_parts (nth xs p)
  unfold leaveK at h
  split at h
  · exact .inl h
  split at h
  · rename_i c15
    rcases arr_from h with h | h
    · exact .inl h
    · have hf := goes_jump hr (by omega)
      exact .inr (.inr ⟨hf.2, by omega⟩)
  split at h
  · rename_i c16
    have hf := goes_jump hr (by omega)
    rcases arr_from h with h | h
    · rcases arr_from h with h | h
      · exact .inl h
      · exact .inr (.inl h)
    · exact .inr (.inr ⟨hf.2, by omega⟩)
  · rcases arr_from h with h | h
    · exact .inl h
    · exact .inr (.inl h)
theorem run_step {xs : List In} {nm n : Nat} {K : Kn} (h : runK xs nm (n + 1) = .ok K) : ∃ K0, runK xs nm n = .ok K0 ∧ stepK xs nm n K0 = .ok K := by
  rw [runK] at h
  cases h0 : runK xs nm n with
  | error e => rw [h0] at h; cases h
  | ok K0 =>
    rw [h0] at h
    simp only at h
    cases h1 : stepK xs nm n K0 with
    | error e => rw [h1] at h; cases h
    | ok K1 => rw [h1] at h; simp only at h; injection h with h; subst h; exact ⟨K0, rfl, h1⟩
theorem step_cases {xs : List In} {nm p : Nat} {K K' : Kn} (h : stepK xs nm p K = .ok K') : ((K.getD p kn0).1 = false ∧ K' = K) ∨ ((K.getD p kn0).1 = true ∧ askE xs nm p (blurK xs p K) = 0 ∧ K' = leaveK (nth xs p) p (blurK xs p K)) := by
  unfold stepK at h
  split at h
  · rename_i h1; injection h with h; exact .inl ⟨h1, h.symm⟩
  · rename_i h1
    split at h
    · cases h
    · rename_i h2; injection h with h; exact .inr ⟨by simpa using h1, by simpa using h2, h.symm⟩
/-- A step leaves what lies below its place as it is. -/
theorem step_low {xs : List In} {nm p x : Nat} {K K' : Kn} (hr : (nth xs p).right = true) (h : stepK xs nm p K = .ok K') (hx : x < p) : K'.getD x kn0 = K.getD x kn0 := by
  rcases step_cases h with ⟨_, rfl⟩ | ⟨_, _, rfl⟩
  · rfl
  · rw [leave_low hr (by omega), blur_ne (by omega)]
/-- What is known at a place behind its step is known at the end. -/
theorem run_low {xs : List In} {nm : Nat} (hT : Taken xs) {p : Nat} : ∀ {n : Nat} {K : Kn}, n ≤ xs.length → p < n → runK xs nm n = .ok K → ∃ K0 K1, runK xs nm p = .ok K0 ∧ stepK xs nm p K0 = .ok K1 ∧ ∀ x, x ≤ p → K.getD x kn0 = K1.getD x kn0 := by
  intro n
  induction n with
  | zero => intro K _ hp; omega
  | succ n ih =>
    intro K hn hp h
    obtain ⟨K0, h0, h1⟩ := run_step h
    by_cases hpn : p = n
    · subst hpn; exact ⟨K0, K, h0, h1, fun x _ => rfl⟩
    · obtain ⟨A, B, ha, hb, hc⟩ := ih (by omega) (by omega) h0
      exact ⟨A, B, ha, hb, fun x hx => by rw [step_low (hT.right (by omega)) h1 (by omega)]; exact hc x hx⟩
/-- Where a loop's body is known its head is. -/
theorem run_heads {xs : List In} {nm : Nat} (hT : Taken xs) : ∀ {n : Nat} {K : Kn}, n ≤ xs.length → runK xs nm n = .ok K → (K.getD 0 kn0).1 = true ∧ ∀ l ∈ loopsL xs, ∀ x : Nat, l.h < x → (x : Int) ≤ l.t → (K.getD x kn0).1 = true → (K.getD l.h.toNat kn0).1 = true := by
  intro n
  induction n with
  | zero =>
    intro K _ h
    rw [runK] at h
    injection h with h
    subst h
    have hp := hT.pos
    refine ⟨?_, fun l hl x hx ht hk => ?_⟩
    · unfold arrK
      rw [if_neg (by simp), if_pos (by simp [List.getD, List.getElem?_replicate, hp]; rfl), kn_set (by simp; exact hp)]
    · rcases arr_from hk with hk | hk
      · exfalso
        rw [show (List.replicate xs.length kn0).getD x kn0 = kn0 by simp [List.getD, List.getElem?_replicate]; split <;> rfl] at hk
        cases hk
      · have := (hT.loops l hl).1
        omega
  | succ n ih =>
    intro K hn h
    obtain ⟨K0, h0, h1⟩ := run_step h
    obtain ⟨i0, i1⟩ := ih (by omega) h0
    have hr := hT.right (show n < xs.length by omega)
    rcases step_cases h1 with ⟨_, rfl⟩ | ⟨hn1, _, rfl⟩
    · exact ⟨i0, i1⟩
    · refine ⟨leave_keeps (by rw [blur_at]; exact i0), fun l hl x hx ht hk => leave_keeps (by
        rw [blur_at]
        have hlp := hT.loops l hl
        have hin : (K0.getD x kn0).1 = true ∨ x = n + 1 ∨ ((nth xs n).leads = true ∧ (x : Int) = n + (nth xs n).far) := by
          rcases leave_from hr hk with h | h
          · rw [blur_at] at h; exact .inl h
          · exact .inr h
        rcases hin with h | h | h
        · exact i1 l hl x hx ht h
        · by_cases hnh : (n : Int) = l.h
          · rw [← hnh]; simpa using hn1
          · exact i1 l hl n (by omega) (by omega) hn1
        · have hin := no_enter hT (by omega) h.1 hl h.2 hx ht
          by_cases hnh : (n : Int) = l.h
          · rw [← hnh]; simpa using hn1
          · exact i1 l hl n (by omega) hin.2 hn1)⟩
/-- At the end: the first place is known, and where a loop's end is known so is its head, and the end fits it. -/
theorem run_final {xs : List In} {nm : Nat} {K : Kn} (hT : Taken xs) (h : runK xs nm xs.length = .ok K) : (K.getD 0 kn0).1 = true ∧ ∀ p : Nat, p < xs.length → (K.getD p kn0).1 = true → (nth xs p).op = 20 → ∃ q : Nat, (q : Int) = p - (nth xs p).d ∧ q < p ∧ (K.getD q kn0).1 = true ∧ fitsAll (K.getD p kn0).2 (K.getD q kn0).2 = true := by
  obtain ⟨h0, hh⟩ := run_heads hT (Nat.le_refl _) h
  refine ⟨h0, fun p hp hk ho => ?_⟩
  have hr := hT.right hp
  have hpl := place_ok hp (hT.place p hp)
  have hg : (nth xs p).far = -(nth xs p).d ∧ 1 ≤ (nth xs p).d := by
    rcases goes_parts (nth xs p) with h | h | h | h
    · rw [hr] at h; cases h.1
    · omega
    · exact ⟨h.2.2.1, h.2.2.2.2.2.1⟩
    · omega
  have hq : ((p : Int) + (nth xs p).far).toNat < p := by omega
  refine ⟨((p : Int) + (nth xs p).far).toNat, by omega, hq, ?_, ?_⟩
  · have hm : lpAt xs p ∈ loopsL xs := loopsU_mem.2 ⟨p, hp, ho, rfl⟩
    exact hh _ hm p (by show (p : Int) + (nth xs p).far < p; omega) (Int.le_refl _) hk
  · obtain ⟨K0, K1, r0, s0, hlow⟩ := run_low hT (Nat.le_refl _) hp h
    rcases step_cases s0 with ⟨hf, rfl⟩ | ⟨hf, ha, rfl⟩
    · rw [hlow p (Nat.le_refl _), hf] at hk; cases hk
    · have e1 : K.getD p kn0 = (blurK xs p K0).getD p kn0 := by rw [hlow p (Nat.le_refl _), leave_low hr (Nat.le_refl _)]
      have e2 : K.getD ((p : Int) + (nth xs p).far).toNat kn0 = (blurK xs p K0).getD ((p : Int) + (nth xs p).far).toNat kn0 := by rw [hlow _ (by omega), leave_low hr (by omega)]
      rw [e1, e2]
      unfold askE asksJ at ha
      rw [if_neg (by omega), if_neg (by omega), if_neg (by omega), if_neg (by omega), if_neg (by omega), if_pos ho] at ha
      split at ha
      · cases ha
      split at ha
      · assumption
      · cases ha
end Go.Proofs.Ytkcofelpndlplaa
/-
  More maps, and two instructions behind the end to which no way leads, change nothing. No Go text in sight.
-/
namespace Go.Proofs.Ytkcofelpndlplaa
set_option linter.unusedVariables false
set_option linter.unusedSimpArgs false

theorem asks_more {nm nm' : Nat} {i : In} {s h : St} (hn : nm ≤ nm') (ha : asksJ nm i s h = 0) : asksJ nm' i s h = 0 := by
  unfold asksJ at ha ⊢
  by_cases c0 : i.op = 0
  · rw [if_pos c0] at ha ⊢; exact ha
  rw [if_neg c0] at ha ⊢
  by_cases c1 : i.op = 13 ∨ i.op = 15
  · rw [if_pos c1]
  rw [if_neg c1] at ha ⊢
  by_cases c2 : i.op = 14
  · rw [if_pos c2] at ha ⊢
    split at ha
    · cases ha
    · rw [if_neg (by omega)]
  rw [if_neg c2] at ha ⊢
  exact ha
theorem run_more {xs : List In} {nm nm' : Nat} (hn : nm ≤ nm') : ∀ {n : Nat} {K : Kn}, runK xs nm n = .ok K → runK xs nm' n = .ok K := by
  intro n
  induction n with
  | zero => intro K h; exact h
  | succ n ih =>
    intro K h
    obtain ⟨K0, h0, h1⟩ := run_step h
    rw [runK, ih h0]
    simp only
    rcases step_cases h1 with ⟨hf, rfl⟩ | ⟨hf, ha, rfl⟩
    · unfold stepK; rw [if_pos hf]
    · have ha' : askE xs nm' n (blurK xs n K0) = 0 := asks_more hn ha
      unfold stepK; rw [if_neg (by rw [hf]; simp), if_neg (by simp [ha'])]
/-- The two instructions. -/
def tailI (a : Int) : List In := [⟨1, 1, a, 7, 0⟩, ⟨22, 0, 7, 0, 0⟩]
theorem tail_goes {a : Int} (h : 0 ≤ a ∧ a ≤ 7) : (In.right ⟨1, 1, a, 7, 0⟩ = true ∧ In.far ⟨1, 1, a, 7, 0⟩ = 0 ∧ In.leads ⟨1, 1, a, 7, 0⟩ = false) ∧ (In.right ⟨22, 0, 7, 0, 0⟩ = true ∧ In.far ⟨22, 0, 7, 0, 0⟩ = 0 ∧ In.leads ⟨22, 0, 7, 0, 0⟩ = false ∧ In.on ⟨22, 0, 7, 0, 0⟩ = false) := by
  have h8 : a = 0 ∨ a = 1 ∨ a = 2 ∨ a = 3 ∨ a = 4 ∨ a = 5 ∨ a = 6 ∨ a = 7 := by omega
  refine ⟨?_, by decide⟩
  rcases h8 with rfl | rfl | rfl | rfl | rfl | rfl | rfl | rfl <;> decide
theorem tail_len (xs : List In) (a : Int) : (xs ++ tailI a).length = xs.length + 2 := by simp [tailI]
theorem tail_one (xs : List In) (a : Int) : nth (xs ++ tailI a) xs.length = ⟨1, 1, a, 7, 0⟩ := by simp [nth, List.getD, tailI]
theorem tail_two (xs : List In) (a : Int) : nth (xs ++ tailI a) (xs.length + 1) = ⟨22, 0, 7, 0, 0⟩ := by
  simp only [nth, List.getD, tailI]
  rw [List.getElem?_append_right (by omega)]
  simp
theorem tail_loops (xs : List In) (a : Int) : loopsL (xs ++ tailI a) = loopsL xs := by
  unfold loopsL
  rw [tail_len]
  show loopsU (xs ++ tailI a) (xs.length + 1 + 1) = _
  rw [loopsU, loopsU, loopsU_app (Nat.le_refl _)]
  unfold lps
  rw [tail_one, tail_two, if_neg (by simp), if_neg (by simp), List.append_nil, List.append_nil]
theorem tail_check {xs : List In} {a : Int} (T : Taken xs) (ha : 0 ≤ a ∧ a ≤ 7) (h : xs.length + 2 ≤ 64) : errL (xs ++ tailI a) = 0 ∨ errL (xs ++ tailI a) = 32 := by
  have hlen := tail_len xs a
  have hpos := T.pos
  have htop := T.top
  obtain ⟨⟨a1, a2, a3⟩, b1, b2, b3, b4⟩ := tail_goes ha
  unfold errL checkL
  rw [hlen, if_neg (by omega), if_neg (by omega), tail_loops, T.cross]
  rw [first_none]
  · dsimp only
    rw [first_none]
    · dsimp only
      split
      · exact .inr rfl
      · exact .inl rfl
    · intro j hj
      unfold intrB
      by_cases e : j = xs.length
      · subst e
        rw [tail_one, a3]; rfl
      by_cases e2 : j = xs.length + 1
      · subst e2
        rw [tail_two, b3]; rfl
      · rw [nth_app (by omega)]
        exact T.intr j (by omega)
  · intro j hj
    unfold placeB placeE
    by_cases e : j = xs.length
    · subst e
      rw [tail_one, a1, a2, hlen, if_neg (by simp), if_neg (by omega), if_neg (by omega)]
      rfl
    by_cases e2 : j = xs.length + 1
    · subst e2
      rw [tail_two, b1, b2, b4, hlen, if_neg (by simp), if_neg (by omega), if_neg (by simp)]
      rfl
    · obtain ⟨h1, h2, h3, h4⟩ := place_ok (show j < xs.length by omega) (T.place j (by omega))
      rw [nth_app (by omega), h1, hlen, if_neg (by simp), if_neg (by omega), if_neg (by omega)]
      rfl
abbrev two0 : Kn := [kn0, kn0]
theorem getD_app {K : Kn} {x : Nat} : (K ++ two0).getD x kn0 = K.getD x kn0 := by
  by_cases h : x < K.length
  · simp [List.getD, List.getElem?_append_left h]
  · rw [show K.getD x kn0 = kn0 by simp [List.getD, List.getElem?_eq_none (show K.length ≤ x by omega)]]
    simp only [List.getD]
    rw [List.getElem?_append_right (by omega)]
    have h3 : x - K.length = 0 ∨ x - K.length = 1 ∨ 2 ≤ x - K.length := by omega
    rcases h3 with e | e | e
    · rw [e]; rfl
    · rw [e]; rfl
    · rw [List.getElem?_eq_none (by simpa using e)]; rfl
theorem set_app {K : Kn} {p : Nat} {y : Bool × St} (h : p < K.length) : (K ++ two0).set p y = K.set p y ++ two0 := List.set_append_left _ _ h
theorem arr_app {K : Kn} {p : Nat} {r : Bool} {s : St} (h : p < K.length) : arrK (K ++ two0) p r s = arrK K p r s ++ two0 := by
  unfold arrK
  rw [getD_app]
  split
  · rfl
  split
  · exact set_app h
  · exact set_app h
theorem seg_app {xs : List In} {a : Int} {p M : Nat} (h : p + M ≤ xs.length) : segI (xs ++ tailI a) p M = segI xs p M := by
  unfold segI
  rw [List.drop_append_of_le_length (by omega), List.take_append_of_le_length (by simp; omega)]
theorem blurAll_app {xs : List In} {a : Int} {p : Nat} : ∀ (ls : List Lp) (s : St), (∀ l ∈ ls, 0 ≤ l.h ∧ l.h ≤ l.t ∧ l.t < xs.length) → blurAll (xs ++ tailI a) p ls s = blurAll xs p ls s := by
  intro ls
  induction ls with
  | nil => intro s _; rfl
  | cons l r ih =>
    intro s h
    have hl := h l (by simp)
    have e : blurOne (xs ++ tailI a) p s l = blurOne xs p s l := by
      unfold blurOne
      split
      · rename_i hp
        rw [seg_app (by omega)]
      · rfl
    show blurAll (xs ++ tailI a) p r (blurOne (xs ++ tailI a) p s l) = blurAll xs p r (blurOne xs p s l)
    rw [e]
    exact ih _ fun x hx => h x (by simp [hx])
theorem blurK_app {xs : List In} {a : Int} {p : Nat} {K : Kn} (T : Taken xs) (hp : p < K.length) : blurK (xs ++ tailI a) p (K ++ two0) = blurK xs p K ++ two0 := by
  unfold blurK
  rw [getD_app, tail_loops, blurAll_app _ _ T.loops]
  exact set_app hp
theorem leave_app {xs : List In} {p : Nat} {K : Kn} (T : Taken xs) (hp : p < xs.length) (hl : K.length = xs.length) : leaveK (nth xs p) p (K ++ two0) = leaveK (nth xs p) p K ++ two0 := by
  have hr := T.right hp
  have hpl := place_ok hp (T.place p hp)
  have hon : (nth xs p).op ≠ 22 → (nth xs p).op ≠ 15 → p + 1 < xs.length := fun h1 h2 => hpl.2.2.2 (by
    rcases goes_parts (nth xs p) with h | h | h | h
    · rw [hr] at h; cases h.1
    · rw [h.2.2.2.2.2.1]; simpa using h2
    · exact h.2.2.2.2.1
    · rw [h.2.2.2.2]; simpa using h1)
  unfold leaveK
  rw [getD_app]
  split
  · rfl
  rename_i c22
  split
  · exact arr_app (by omega)
  rename_i c15
  have h1 := hon c22 c15
  split
  · rw [arr_app (by omega), arr_app (by rw [arrK_len]; omega)]
  · exact arr_app (by omega)
theorem runK_len {xs : List In} {nm : Nat} : ∀ {n : Nat} {K : Kn}, runK xs nm n = .ok K → K.length = xs.length := by
  intro n
  induction n with
  | zero => intro K h; rw [runK] at h; injection h with h; subst h; rw [arrK_len]; simp
  | succ n ih =>
    intro K h
    obtain ⟨K0, h0, h1⟩ := run_step h
    have := ih h0
    rcases step_cases h1 with ⟨_, rfl⟩ | ⟨_, _, rfl⟩
    · exact this
    · rw [leaveK_len]; unfold blurK; rw [List.length_set]; exact this
theorem run_tail {xs : List In} {nm : Nat} {a : Int} (T : Taken xs) : ∀ {n : Nat} {K : Kn}, n ≤ xs.length → runK xs nm n = .ok K → runK (xs ++ tailI a) nm n = .ok (K ++ two0) := by
  intro n
  induction n with
  | zero =>
    intro K _ h
    rw [runK] at h ⊢
    injection h with h
    subst h
    rw [tail_len, show List.replicate (xs.length + 2) kn0 = List.replicate xs.length kn0 ++ two0 by rw [List.replicate_append_replicate.symm]; rfl, arr_app (by simpa using T.pos)]
  | succ n ih =>
    intro K hn h
    obtain ⟨K0, h0, h1⟩ := run_step h
    have hl := runK_len h0
    rw [runK, ih (by omega) h0]
    simp only
    unfold stepK
    rw [getD_app]
    rcases step_cases h1 with ⟨hf, rfl⟩ | ⟨hf, ha, rfl⟩
    · rw [if_pos hf]
    · rw [if_neg (by rw [hf]; simp), blurK_app T (by omega)]
      have e : askE (xs ++ tailI a) nm n (blurK xs n K0 ++ two0) = askE xs nm n (blurK xs n K0) := by
        unfold askE
        rw [getD_app, getD_app, nth_app (by omega)]
      rw [e, if_neg (by simp [ha]), nth_app (by omega), leave_app T (by omega) (by unfold blurK; rw [List.length_set]; exact hl)]
/-- Two dead instructions more: the same is known, and nothing of them. -/
theorem run_dead {xs : List In} {nm : Nat} {a : Int} {K : Kn} (T : Taken xs) (h : runK xs nm xs.length = .ok K) : runK (xs ++ tailI a) nm (xs ++ tailI a).length = .ok (K ++ two0) := by
  have hl := runK_len h
  rw [tail_len]
  show runK (xs ++ tailI a) nm (xs.length + 1 + 1) = _
  rw [runK, runK, run_tail T (Nat.le_refl _) h]
  have e : ∀ p, xs.length ≤ p → stepK (xs ++ tailI a) nm p (K ++ two0) = .ok (K ++ two0) := fun p hp => by
    unfold stepK
    rw [getD_app, show K.getD p kn0 = kn0 by simp [List.getD, List.getElem?_eq_none (show K.length ≤ p by omega)], if_pos (show kn0.1 = false from rfl)]
  simp only
  rw [e xs.length (Nat.le_refl _)]
  simp only
  rw [e (xs.length + 1) (by omega)]
end Go.Proofs.Ytkcofelpndlplaa
/-
  What the landed Judge answers. No condition beyond the argument's reading.
-/
namespace Go.Proofs.Ytkcofelpndlplaa
open Go.RowKit
set_option linter.unusedVariables false
set_option linter.unusedSimpArgs false
set_option maxRecDepth 100000

/-- What is known at the places, or the place and the error. -/
def inqR (ms : List Int) (xs : List In) : Except (Int × Int) Kn :=
  if mapsJ ms = false then .error (0, 2) else if errL xs ≠ 0 then .error ((checkL xs).1, errL xs)
  else match runK xs ms.length xs.length with
    | .error e => .error (e.1, e.2)
    | .ok K => .ok K
def judgeR (ms : List Int) (xs : List In) : Int × Int := match inqR ms xs with | .error e => e | .ok _ => (0, 0)
theorem first_lt {p : Nat → Bool} {n k : Nat} (h : first p n = some k) : k < n := by
  unfold first at h
  exact List.mem_range.1 (List.mem_of_find?_eq_some h)
theorem crossF_mem : ∀ (r prev : List Lp) (t : Int), crossF prev r = some t → ∃ l ∈ r, l.t = t
  | [], prev, t, h => by simp [crossF] at h
  | x :: r, prev, t, h => by
    rw [crossF] at h
    split at h
    · injection h with h; exact ⟨x, by simp, h⟩
    · obtain ⟨l, hl, e⟩ := crossF_mem r _ t h; exact ⟨l, by simp [hl], e⟩
theorem check_place (xs : List In) : 0 ≤ (checkL xs).1 ∧ ((checkL xs).1 = 0 ∨ (checkL xs).1 < xs.length) := by
  unfold checkL
  split
  · exact ⟨by decide, .inl rfl⟩
  split
  · exact ⟨by decide, .inl rfl⟩
  split
  · rename_i k hk
    have := first_lt hk
    exact ⟨by simp, .inr (by simp; omega)⟩
  split
  · rename_i t ht
    obtain ⟨l, hl, rfl⟩ := crossF_mem _ _ _ ht
    obtain ⟨k, hk, _, rfl⟩ := loopsU_mem.1 hl
    exact ⟨by simp [lpAt], .inr (by simp [lpAt]; omega)⟩
  split
  · rename_i k hk
    have := first_lt hk
    exact ⟨by simp, .inr (by simp; omega)⟩
  split
  · exact ⟨by decide, .inl rfl⟩
  · exact ⟨by decide, .inl rfl⟩
set_option maxHeartbeats 800000 in
theorem linq_maps (vm vc : Value) (ms : List Int) (w : World) (hm : Sees .i64 w vm ms) (hmf : Hid (mapsJ ms = false)) :
    Calls Try.prog 12 #[.agg #[vm, vc]] w fun e w' => e = .returned (.tuple #[.slice none 0 0, .int .i64 0, .int .i64 2]) ∧ Below w.heap.size w w' := by
  have HM := keepJ hm
  obtain ⟨ma, mcap, rfl⟩ : ∃ a c, vm = .slice a ms.length c := by obtain ⟨a, c, h, _⟩ := hm; exact ⟨a, c, h⟩
  go_enter Try.func12, Try.ntmps12
  go_wp2_with (go_at_call 15; go_must (refine (lmapsFit_any _ ms _ (HM.out.below ((Below.refl _ _).alloc (Nat.le_refl _) _) (Nat.le_refl _)) hmf).mono ?_); rintro e w' ⟨rfl, rfl⟩)
  go_ret3
  exact ⟨rfl, by go_grown⟩
set_option maxHeartbeats 800000 in
theorem linq_flow (vm : Value) (ms : List Int) (vc : Value) (xs : List In) (w : World) (hm : Sees .i64 w vm ms) (hx : SeesI w vc xs) (hmf : Hid (mapsJ ms = true)) {P E : Int} (hP : Hid (P = (checkL xs).1)) (hE : Hid (E = errL xs)) (hE0 : E ≠ 0) :
    Calls Try.prog 12 #[.agg #[vm, vc]] w fun e w' => e = .returned (.tuple #[.slice none 0 0, .int .i64 P, .int .i64 E]) ∧ Below w.heap.size w w' := by
  have HM := keepJ hm
  have HX := keepJ hx
  obtain ⟨ma, mcap, rfl⟩ : ∃ a c, vm = .slice a ms.length c := by obtain ⟨a, c, h, _⟩ := hm; exact ⟨a, c, h⟩
  obtain ⟨ca, ccap, rfl⟩ : ∃ a c, vc = .slice a xs.length c := by obtain ⟨a, c, h, _⟩ := hx; exact ⟨a, c, h⟩
  have hE1 : ¬ E = 0 := hE0
  clear hm hx hE0
  go_enter Try.func12, Try.ntmps12
  go_wp2_with (first
    | (go_at_call 15; go_must (refine (lmapsFit_any _ ms _ (HM.out.below ((Below.refl _ _).alloc (Nat.le_refl _) _) (Nat.le_refl _)) hmf).mono ?_); rintro e w' ⟨rfl, rfl⟩)
    | (go_at_call 16; go_must (refine (check_as (HX.out.below ((Below.refl _ _).alloc (Nat.le_refl _) _)) hP hE).mono ?_); rintro e w2 ⟨rfl, hb2⟩; go_must (have hB2 := box_below hb2; clear hb2)))
  go_ret3
  exact ⟨rfl, hB2⟩
/-- The inquiry, whole. -/
theorem linquire_any (vm : Value) (ms : List Int) (vc : Value) (xs : List In) (w : World) (hm : Sees .i64 w vm ms) (hx : SeesI w vc xs) :
    Calls Try.prog 12 #[.agg #[vm, vc]] w fun e w' =>
      (∃ P E : Int, inqR ms xs = .error (P, E) ∧ E ≠ 0 ∧ (0 ≤ P ∧ (P = 0 ∨ P < xs.length)) ∧ e = .returned (.tuple #[.slice none 0 0, .int .i64 P, .int .i64 E]) ∧ Below w.heap.size w w') ∨
      (∃ (K : Kn) (kb : Nat), inqR ms xs = .ok K ∧ Taken xs ∧ mapsJ ms = true ∧ runK xs ms.length xs.length = .ok K ∧ e = .returned (.tuple #[.slice (some ⟨kb, 0, none⟩) xs.length xs.length, .int .i64 0, .int .i64 0]) ∧ Hp w' kb 54 (flatK K) ∧ w.heap.size ≤ kb ∧ K.length = xs.length ∧ MadeK ms.length K ∧ Below w.heap.size w w') := by
  unfold inqR
  cases hmf : mapsJ ms with
  | false =>
    refine (linq_maps vm vc ms w hm hmf).mono ?_
    rintro e w' ⟨rfl, hb⟩
    exact .inl ⟨0, 2, by simp, by decide, ⟨by decide, .inl rfl⟩, rfl, hb⟩
  | true =>
    by_cases hE : errL xs = 0
    · have hT : Taken xs := check_ok.1 hE
      obtain ⟨a, cap, hv, h1, h2, h3, h4⟩ := id hx
      obtain ⟨b, off, rfl, hlt, hat⟩ := h4 (fun e => by have := hT.pos; rw [e] at this; simp at this)
      subst hv
      refine (linq_run vm ms b off cap xs w hm hx hmf hE.symm).mono ?_
      rintro e w' (⟨p, E, hr, hE0, hp, rfl, hb⟩ | ⟨K, kb, hr, rfl, hk, hkb, hl, hM, hb⟩)
      · refine .inl ⟨p, E, ?_, hE0, ⟨by omega, .inr (by omega)⟩, rfl, hb⟩
        rw [if_neg (by simp), if_neg (by simp [hE]), hr]
      · refine .inr ⟨K, kb, ?_, hT, rfl, hr, rfl, hk, hkb, hl, hM, hb⟩
        rw [if_neg (by simp), if_neg (by simp [hE]), hr]
    · refine (linq_flow vm ms vc xs w hm hx hmf rfl rfl hE).mono ?_
      rintro e w' ⟨rfl, hb⟩
      exact .inl ⟨(checkL xs).1, errL xs, by rw [if_neg (by simp), if_pos hE], hE, check_place xs, rfl, hb⟩
set_option maxHeartbeats 800000 in
theorem ljudge_any (vm : Value) (ms : List Int) (vc : Value) (xs : List In) (w : World) (hm : Sees .i64 w vm ms) (hx : SeesI w vc xs) :
    Calls Try.prog 10 #[.agg #[vm, vc]] w fun e w' => ∃ P E : Int, judgeR ms xs = (P, E) ∧ (E = 0 ↔ ∃ K, inqR ms xs = .ok K) ∧ (0 ≤ P ∧ (P = 0 ∨ P < xs.length)) ∧ e = .returned (.tuple #[.int .i64 P, .int .i64 E]) ∧ Below w.heap.size w w' := by
  have HM := keepJ hm
  have HX := keepJ hx
  obtain ⟨ma, mcap, rfl⟩ : ∃ a c, vm = .slice a ms.length c := by obtain ⟨a, c, h, _⟩ := hm; exact ⟨a, c, h⟩
  obtain ⟨ca, ccap, rfl⟩ : ∃ a c, vc = .slice a xs.length c := by obtain ⟨a, c, h, _⟩ := hx; exact ⟨a, c, h⟩
  clear hm hx
  go_enter Try.func10, Try.ntmps10
  go_wp2_with (go_at_call 12; go_must (refine (linquire_any _ ms _ xs _ (HM.out.below ((Below.refl _ _).alloc (Nat.le_refl _) _) (Nat.le_refl _)) (HX.out.below ((Below.refl _ _).alloc (Nat.le_refl _) _))).mono ?_); rintro e w1 (⟨P, E, hi, hE0, hP, rfl, hb⟩ | ⟨K, kb, hi, hT, hmf, hr, rfl, hk, hkb, hl, hM, hb⟩) <;> (have HB := keepJ (box_below hb); have HI := keepJ hi; clear hb hi))
  · go_ret2
    exact ⟨P, E, by unfold judgeR; rw [HI.out], ⟨fun h => absurd h hE0, fun ⟨K, h⟩ => by rw [HI.out] at h; cases h⟩, hP, rfl, HB.out⟩
  · go_ret2
    exact ⟨0, 0, by unfold judgeR; rw [HI.out], ⟨fun _ => ⟨K, HI.out⟩, fun _ => rfl⟩, ⟨by decide, .inl rfl⟩, rfl, HB.out⟩
end Go.Proofs.Ytkcofelpndlplaa
