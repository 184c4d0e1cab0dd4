/-
  JRun
  JJudge
  JTypes
  RRead
  RPaint
-/
import Derived.Test.YtkcofelpndlplaaGreatMT41
import Derived.Test.YtkcofelpndlplaaGreatMT43
import Derived.Maps.AppendAt
namespace Go.Proofs.YtkcofelpndlplaaGreat
set_option linter.unusedVariables false
set_option linter.unusedSimpArgs false
open Go.RowKit
set_option maxRecDepth 100000
theorem goes_jump {i : In} (hr : i.right = true) (ho : 15 <= i.op /\ i.op <= 19) : 1 <= i.far /\ i.leads = true := by
 rcases qBm i with h | h | h | h
 ·rw [hr] at h; cases h.1
 ·exact ⟨by omega, h.2.2.2.2.1⟩
 ·omega
 ·omega
theorem no_enter {xs : List In} (hT : Taken xs) {k : Nat} (hk : k < xs.length) (hl : (nth xs k).leads = true) {l : Lp} (hm : l ∈ loopsL xs) {x : Int} (hx : x = k + (nth xs k).far) (h1 : l.h < x) (h2 : x <= l.t) : l.h <= k /\ (k : Int) <= l.t := by
 have h := hT.intr k hk
 unfold intrB at h
 rw [hl, Bool.true_and, List.any_eq_false] at h
 have h3 := h l hm
 rw [enters_iff] at h3
 by_cases hc : l.h <= k /\ (k : Int) <= l.t
 ·exact hc
 ·exact absurd ⟨hc, by omega, by omega⟩ h3
theorem kn_set_ne {K : Kn} {p x : Nat} {y : Bool × St} (h : x ≠ p) : (K.set p y).getD x kn0 = K.getD x kn0 := by
 simp [List.getD, List.getElem?_set, h, Ne.symm h]
theorem arr_ne {K : Kn} {p x : Nat} {r : Bool} {s : St} (h : x ≠ p) : (arrK K p r s).getD x kn0 = K.getD x kn0 := by
 unfold arrK
 split
 ·rfl
 split
 ·exact kn_set_ne h
 ·exact kn_set_ne h
theorem kn_set_out {K : Kn} {p x : Nat} {y : Bool × St} (h : ¬ p < K.length) : (K.set p y).getD x kn0 = K.getD x kn0 := by
 rw [List.set_eq_of_length_le (by omega)]
theorem arr_keeps {K : Kn} {p x : Nat} {r : Bool} {s : St} (h : (K.getD x kn0).1 = true) : ((arrK K p r s).getD x kn0).1 = true := by
 by_cases hx : x = p
 ·subst hx
  unfold arrK
  split
  ·exact h
  rename_i hr
  by_cases hl : x < K.length
  ·split
   ·rename_i h2; rw [h] at h2; cases h2
   ·rw [kn_set hl]; exact h
  ·split
   ·rw [kn_set_out hl]; exact h
   ·rw [kn_set_out hl]; exact h
 ·rw [arr_ne hx]; exact h
theorem arr_from {K : Kn} {p x : Nat} {r : Bool} {s : St} (h : ((arrK K p r s).getD x kn0).1 = true) : (K.getD x kn0).1 = true ∨ x = p := by
 by_cases hx : x = p
 ·exact .inr hx
 ·rw [arr_ne hx] at h; exact .inl h
theorem blur_at {xs : List In} {p x : Nat} {K : Kn} : ((blurK xs p K).getD x kn0).1 = (K.getD x kn0).1 := by
 unfold blurK
 by_cases hx : x = p
 ·subst hx
  by_cases hl : x < K.length
  ·rw [kn_set hl]
  ·rw [kn_set_out hl]
 ·rw [kn_set_ne hx]
theorem blur_ne {xs : List In} {p x : Nat} {K : Kn} (h : x ≠ p) : (blurK xs p K).getD x kn0 = K.getD x kn0 := kn_set_ne h
theorem leave_low {xs : List In} {p x : Nat} {K : Kn} (hr : (nth xs p).right = true) (hx : x <= p) : (leaveK (nth xs p) p K).getD x kn0 = K.getD x kn0 := by
 have hg := qBm (nth xs p)
 unfold leaveK
 split
 ·rfl
 rename_i c22
 split
 ·rename_i c15
  refine arr_ne ?_
  have hf := (goes_jump hr (by omega)).1
  omega
 rename_i c15
 split
 ·rename_i c16
  have hf := (goes_jump hr (by omega)).1
  rw [arr_ne (by omega), arr_ne (by omega)]
 ·exact arr_ne (by omega)
theorem leave_keeps {i : In} {p x : Nat} {K : Kn} (h : (K.getD x kn0).1 = true) : ((leaveK i p K).getD x kn0).1 = true := by
 unfold leaveK
 split
 ·exact h
 split
 ·exact arr_keeps h
 split
 ·exact arr_keeps (arr_keeps h)
 ·exact arr_keeps h
theorem leave_from {xs : List In} {p x : Nat} {K : Kn} (hr : (nth xs p).right = true) (h : ((leaveK (nth xs p) p K).getD x kn0).1 = true) : (K.getD x kn0).1 = true ∨ x = p + 1 ∨ ((nth xs p).leads = true /\ (x : Int) = p + (nth xs p).far) := by
 have hg := qBm (nth xs p)
 unfold leaveK at h
 split at h
 ·exact .inl h
 split at h
 ·rename_i c15
  rcases arr_from h with h | h
  ·exact .inl h
  ·have hf := goes_jump hr (by omega)
   exact .inr (.inr ⟨hf.2, by omega⟩)
 split at h
 ·rename_i c16
  have hf := goes_jump hr (by omega)
  rcases arr_from h with h | h
  ·rcases arr_from h with h | h
   ·exact .inl h
   ·exact .inr (.inl h)
  ·exact .inr (.inr ⟨hf.2, by omega⟩)
 ·rcases arr_from h with h | h
  ·exact .inl h
  ·exact .inr (.inl h)
theorem run_step {xs : List In} {nm n : Nat} {K : Kn} (h : runK xs nm (n + 1) = .ok K) : ∃ K0, runK xs nm n = .ok K0 /\ stepK xs nm n K0 = .ok K := by
 rw [runK] at h
 cases h0 : runK xs nm n with
 | error e => rw [h0] at h; cases h
 | ok K0 =>
  rw [h0] at h
  simp only at h
  cases h1 : stepK xs nm n K0 with
  | error e => rw [h1] at h; cases h
  | ok K1 => rw [h1] at h; simp only at h; injection h with h; subst h; exact ⟨K0, rfl, h1⟩
theorem step_cases {xs : List In} {nm p : Nat} {K K' : Kn} (h : stepK xs nm p K = .ok K') : ((K.getD p kn0).1 = false /\ K' = K) ∨ ((K.getD p kn0).1 = true /\ askE xs nm p (blurK xs p K) = 0 /\ K' = leaveK (nth xs p) p (blurK xs p K)) := by
 unfold stepK at h
 split at h
 ·rename_i h1; injection h with h; exact .inl ⟨h1, h.symm⟩
 ·rename_i h1
  split at h
  ·cases h
  ·rename_i h2; injection h with h; exact .inr ⟨by simpa using h1, by simpa using h2, h.symm⟩
theorem run_heads {xs : List In} {nm : Nat} (hT : Taken xs) : ∀ {n : Nat} {K : Kn}, n <= xs.length -> runK xs nm n = .ok K -> (K.getD 0 kn0).1 = true /\ ∀ l ∈ loopsL xs, ∀ x : Nat, l.h < x -> (x : Int) <= l.t -> (K.getD x kn0).1 = true -> (K.getD l.h.toNat kn0).1 = true := by
 intro n
 induction n with
 | zero =>
  intro K _ h
  rw [runK] at h
  injection h with h
  subst h
  have hp := hT.pos
  refine ⟨?_, fun l hl x hx ht hk => ?_⟩
  ·unfold arrK
   rw [if_neg (by simp), if_pos (by simp [List.getD, List.getElem?_replicate, hp]; rfl), kn_set (by simp; exact hp)]
  ·rcases arr_from hk with hk | hk
   ·exfalso
    rw [show (List.replicate xs.length kn0).getD x kn0 = kn0 by simp [List.getD, List.getElem?_replicate]; split <;> rfl] at hk
    cases hk
   ·have := (hT.loops l hl).1
    omega
 | succ n ih =>
  intro K hn h
  obtain ⟨K0, h0, h1⟩ := run_step h
  obtain ⟨i0, i1⟩ := ih (by omega) h0
  have hr := hT.right (show n < xs.length by omega)
  rcases step_cases h1 with ⟨_, rfl⟩ | ⟨hn1, _, rfl⟩
  ·exact ⟨i0, i1⟩
  ·refine ⟨leave_keeps (by rw [blur_at]; exact i0), fun l hl x hx ht hk => leave_keeps (by
    rw [blur_at]
    have hlp := hT.loops l hl
    have hin : (K0.getD x kn0).1 = true ∨ x = n + 1 ∨ ((nth xs n).leads = true /\ (x : Int) = n + (nth xs n).far) := by
     rcases leave_from hr hk with h | h
     ·rw [blur_at] at h; exact .inl h
     ·exact .inr h
    rcases hin with h | h | h
    ·exact i1 l hl x hx ht h
    ·by_cases hnh : (n : Int) = l.h
     ·rw [<- hnh]; simpa using hn1
     ·exact i1 l hl n (by omega) (by omega) hn1
    ·have hin := no_enter hT (by omega) h.1 hl h.2 hx ht
     by_cases hnh : (n : Int) = l.h
     ·rw [<- hnh]; simpa using hn1
     ·exact i1 l hl n (by omega) hin.2 hn1)⟩
def inqR (ms : List Int) (xs : List In) : Except (Int × Int) Kn :=
 if mapsJ ms = false then .error (0, 2) else if errL xs ≠ 0 then .error ((checkL xs).1, errL xs)
 else match runK xs ms.length xs.length with
  | .error e => .error (e.1, e.2)
  | .ok K => .ok K
def judgeR (ms : List Int) (xs : List In) : Int × Int := match inqR ms xs with | .error e => e | .ok _ => (0, 0)
theorem first_lt {p : Nat -> Bool} {n k : Nat} (h : first p n = some k) : k < n := by
 unfold first at h
 exact List.mem_range.1 (List.mem_of_find?_eq_some h)
theorem crossF_mem : ∀ (r prev : List Lp) (t : Int), crossF prev r = some t -> ∃ l ∈ r, l.t = t
 | [], prev, t, h => by simp [crossF] at h
 | x :: r, prev, t, h => by
  rw [crossF] at h
  split at h
  ·injection h with h; exact ⟨x, by simp, h⟩
  ·obtain ⟨l, hl, e⟩ := crossF_mem r _ t h; exact ⟨l, by simp [hl], e⟩
theorem check_place (xs : List In) : 0 <= (checkL xs).1 /\ ((checkL xs).1 = 0 ∨ (checkL xs).1 < xs.length) := by
 unfold checkL
 split
 ·exact ⟨by decide, .inl rfl⟩
 split
 ·exact ⟨by decide, .inl rfl⟩
 split
 ·rename_i k hk
  have := first_lt hk
  exact ⟨by simp, .inr (by simp; omega)⟩
 split
 ·rename_i t ht
  obtain ⟨l, hl, rfl⟩ := crossF_mem _ _ _ ht
  obtain ⟨k, hk, _, rfl⟩ := loopsU_mem.1 hl
  exact ⟨by simp [lpAt], .inr (by simp [lpAt]; omega)⟩
 split
 ·rename_i k hk
  have := first_lt hk
  exact ⟨by simp, .inr (by simp; omega)⟩
 split
 ·exact ⟨by decide, .inl rfl⟩
 ·exact ⟨by decide, .inl rfl⟩
set_option maxHeartbeats 800000 in
theorem linq_maps (vm vc : Value) (ms : List Int) (w : World) (hm : Sees .i64 w vm ms) (hmf : Hid (mapsJ ms = false)) :
  Calls Tryz.prog 13 #[.agg #[vm, vc]] w fun e w' => e = .returned (.tuple #[.slice none 0 0, .int .i64 0, .int .i64 2]) /\ Below w.heap.size w w' := by
 have HM := keepJ hm
 obtain ⟨ma, mcap, rfl⟩ : ∃ a c, vm = .slice a ms.length c := by obtain ⟨a, c, h, _⟩ := hm; exact ⟨a, c, h⟩
 go_enter Tryz.func13, Tryz.ntmps13
 go_wp2_with (go_at_call 19; go_must (refine (lmapsFit_any _ ms _ (HM.out.below ((Below.refl _ _).alloc (Nat.le_refl _) _) (Nat.le_refl _)) hmf).mono ?_); rintro e w' ⟨rfl, rfl⟩)
 go_ret3
 exact ⟨rfl, by go_grown⟩
set_option maxHeartbeats 800000 in
theorem linq_flow (vm : Value) (ms : List Int) (vc : Value) (xs : List In) (w : World) (hm : Sees .i64 w vm ms) (hx : SeesI w vc xs) (hmf : Hid (mapsJ ms = true)) {P E : Int} (hP : Hid (P = (checkL xs).1)) (hE : Hid (E = errL xs)) (hE0 : E ≠ 0) :
  Calls Tryz.prog 13 #[.agg #[vm, vc]] w fun e w' => e = .returned (.tuple #[.slice none 0 0, .int .i64 P, .int .i64 E]) /\ Below w.heap.size w w' := by
 have HM := keepJ hm
 have HX := keepJ hx
 obtain ⟨ma, mcap, rfl⟩ : ∃ a c, vm = .slice a ms.length c := by obtain ⟨a, c, h, _⟩ := hm; exact ⟨a, c, h⟩
 obtain ⟨ca, ccap, rfl⟩ : ∃ a c, vc = .slice a xs.length c := by obtain ⟨a, c, h, _⟩ := hx; exact ⟨a, c, h⟩
 have hE1 : ¬ E = 0 := hE0
 clear hm hx hE0
 go_enter Tryz.func13, Tryz.ntmps13
 go_wp2_with (first
  | (go_at_call 19; go_must (refine (lmapsFit_any _ ms _ (HM.out.below ((Below.refl _ _).alloc (Nat.le_refl _) _) (Nat.le_refl _)) hmf).mono ?_); rintro e w' ⟨rfl, rfl⟩)
  | (go_at_call 20; go_must (refine (check_as (HX.out.below ((Below.refl _ _).alloc (Nat.le_refl _) _)) hP hE).mono ?_); rintro e w2 ⟨rfl, hb2⟩; go_must (have hB2 := qAl hb2; clear hb2)))
 go_ret3
 exact ⟨rfl, hB2⟩
theorem linquire_any (vm : Value) (ms : List Int) (vc : Value) (xs : List In) (w : World) (hm : Sees .i64 w vm ms) (hx : SeesI w vc xs) :
  Calls Tryz.prog 13 #[.agg #[vm, vc]] w fun e w' =>
   (∃ P E : Int, inqR ms xs = .error (P, E) /\ E ≠ 0 /\ (0 <= P /\ (P = 0 ∨ P < xs.length)) /\ e = .returned (.tuple #[.slice none 0 0, .int .i64 P, .int .i64 E]) /\ Below w.heap.size w w') ∨
   (∃ (K : Kn) (kb : Nat), inqR ms xs = .ok K /\ Taken xs /\ mapsJ ms = true /\ runK xs ms.length xs.length = .ok K /\ e = .returned (.tuple #[.slice (some ⟨kb, 0, none⟩) xs.length xs.length, .int .i64 0, .int .i64 0]) /\ Hp w' kb 62 (flatK K) /\ w.heap.size <= kb /\ K.length = xs.length /\ MadeK ms.length K /\ Below w.heap.size w w') := by
 unfold inqR
 cases hmf : mapsJ ms with
 | false =>
  refine (linq_maps vm vc ms w hm hmf).mono ?_
  rintro e w' ⟨rfl, hb⟩
  exact .inl ⟨0, 2, by simp, by decide, ⟨by decide, .inl rfl⟩, rfl, hb⟩
 | true =>
  by_cases hE : errL xs = 0
  ·have hT : Taken xs := check_ok.1 hE
   obtain ⟨a, cap, hv, h1, h2, h3, h4⟩ := id hx
   obtain ⟨b, off, rfl, hlt, hat⟩ := h4 (fun e => by have := hT.pos; rw [e] at this; simp at this)
   subst hv
   refine (linq_run vm ms b off cap xs w hm hx hmf hE.symm).mono ?_
   rintro e w' (⟨p, E, hr, hE0, hp, rfl, hb⟩ | ⟨K, kb, hr, rfl, hk, hkb, hl, hM, hb⟩)
   ·refine .inl ⟨p, E, ?_, hE0, ⟨by omega, .inr (by omega)⟩, rfl, hb⟩
    rw [if_neg (by simp), if_neg (by simp [hE]), hr]
   ·refine .inr ⟨K, kb, ?_, hT, rfl, hr, rfl, hk, hkb, hl, hM, hb⟩
    rw [if_neg (by simp), if_neg (by simp [hE]), hr]
  ·refine (linq_flow vm ms vc xs w hm hx hmf rfl rfl hE).mono ?_
   rintro e w' ⟨rfl, hb⟩
   exact .inl ⟨(checkL xs).1, errL xs, by rw [if_neg (by simp), if_pos hE], hE, check_place xs, rfl, hb⟩
set_option maxHeartbeats 800000 in
theorem ljudge_any (vm : Value) (ms : List Int) (vc : Value) (xs : List In) (w : World) (hm : Sees .i64 w vm ms) (hx : SeesI w vc xs) :
  Calls Tryz.prog 7 #[.agg #[vm, vc]] w fun e w' => ∃ P E : Int, judgeR ms xs = (P, E) /\ (E = 0 ↔ ∃ K, inqR ms xs = .ok K) /\ (0 <= P /\ (P = 0 ∨ P < xs.length)) /\ e = .returned (.tuple #[.int .i64 P, .int .i64 E]) /\ Below w.heap.size w w' := by
 have HM := keepJ hm
 have HX := keepJ hx
 obtain ⟨ma, mcap, rfl⟩ : ∃ a c, vm = .slice a ms.length c := by obtain ⟨a, c, h, _⟩ := hm; exact ⟨a, c, h⟩
 obtain ⟨ca, ccap, rfl⟩ : ∃ a c, vc = .slice a xs.length c := by obtain ⟨a, c, h, _⟩ := hx; exact ⟨a, c, h⟩
 clear hm hx
 go_enter Tryz.func7, Tryz.ntmps7
 go_wp2_with (go_at_call 13; go_must (refine (linquire_any _ ms _ xs _ (HM.out.below ((Below.refl _ _).alloc (Nat.le_refl _) _) (Nat.le_refl _)) (HX.out.below ((Below.refl _ _).alloc (Nat.le_refl _) _))).mono ?_); rintro e w1 (⟨P, E, hi, hE0, hP, rfl, hb⟩ | ⟨K, kb, hi, hT, hmf, hr, rfl, hk, hkb, hl, hM, hb⟩) <;> (have HB := keepJ (qAl hb); have HI := keepJ hi; clear hb hi))
 ·go_ret2
  exact ⟨P, E, by unfold judgeR; rw [HI.out], ⟨fun h => absurd h hE0, fun ⟨K, h⟩ => by rw [HI.out] at h; cases h⟩, hP, rfl, HB.out⟩
 ·go_ret2
  exact ⟨0, 0, by unfold judgeR; rw [HI.out], ⟨fun _ => ⟨K, HI.out⟩, fun _ => rfl⟩, ⟨by decide, .inl rfl⟩, rfl, HB.out⟩
def nilV : Value := .slice none 0 0
def blockOf : Value -> Nat | .slice (some a) _ _ => a.block | _ => 0
def RowOf (w : World) (tb : Nat) (v : Value) (p : Bool × St) : Prop := (p.1 = false -> v = nilV) /\ (p.1 = true -> (∃ base, w.ownsRow base 46 4 v p.2.length (flatT p.2)) /\ p.2.length = 8 /\ tb < blockOf v /\ blockOf v < w.heap.size)
structure Rows9 (w : World) (tb : Nat) (K : Kn) (k : Nat) (vs : List Value) : Prop where
 len : vs.length = K.length
 cells : Hp w tb 40 vs
 row : ∀ j, j < k -> RowOf w tb (vs.getD j nilV) (K.getD j kn0)
 ord : ∀ i j, i < j -> j < k -> (K.getD i kn0).1 = true -> (K.getD j kn0).1 = true -> blockOf (vs.getD i nilV) < blockOf (vs.getD j nilV)
 rest : ∀ j, k <= j -> vs.getD j nilV = nilV
theorem own_block {w : World} {base : Nat} {e : TypeId} {z : Nat} {v : Value} {n : Nat} {xs : List Value} (h : w.ownsRow base e z v n xs) (hn : 0 < n) : ∃ g cap, v = .slice (some ⟨g, 0, none⟩) n cap /\ base <= g /\ g < w.heap.size /\ n <= cap := by
 rcases h with ⟨h1, ⟨rfl, rfl⟩ | ⟨g, cap, cur, rfl, hb, hh, h3, h4, _⟩⟩
 ·omega
 ·exact ⟨g, cap, rfl, hb, (Array.getElem?_eq_some_iff.1 hh).1, h3⟩
theorem RowOf.grown {w w' : World} {tb : Nat} {v : Value} {p : Bool × St} (h : RowOf w tb v p) {b : Nat} (hg : w.grownBy w' (some b)) (hb : b = tb ∨ w.heap.size <= b) : RowOf w' tb v p := by
 refine ⟨h.1, fun hp => ?_⟩
 obtain ⟨⟨base, ho⟩, h8, h1, h2⟩ := h.2 hp
 refine ⟨⟨base, ho.kept hg ?_⟩, h8, h1, Nat.lt_of_lt_of_le h2 hg.size⟩
 obtain ⟨g, cap, rfl, _⟩ := own_block ho (by omega)
 simp only [blockOf] at h1 h2
 refine .inr fun e => ?_
 simp [Value.ownBlock] at e
 omega
theorem Rows9.grown {w w' : World} {tb : Nat} {K : Kn} {k : Nat} {vs : List Value} (h : Rows9 w tb K k vs) (hb : Below w.heap.size w w') : Rows9 w' tb K k vs :=
 ⟨h.len, h.cells.below hb h.cells.lt, fun j hj => (h.row j hj).grown (grown_of_below hb (some w.heap.size)) (.inr (Nat.le_refl _)), h.ord, h.rest⟩
theorem getD_set {vs : List Value} {k j : Nat} {u : Value} (hk : k < vs.length) : (vs.set k u).getD j nilV = if j = k then u else vs.getD j nilV := by
 by_cases h : j = k
 ·subst h; simp [List.getD, List.getElem?_set, hk]
 ·simp [List.getD, List.getElem?_set, h, Ne.symm h]
theorem Rows9.skip {w : World} {tb : Nat} {K : Kn} {k : Nat} {vs : List Value} (h : Rows9 w tb K k vs) (hr : (K.getD k kn0).1 = false) : Rows9 w tb K (k + 1) vs := by
 refine ⟨h.len, h.cells, fun j hj => ?_, fun i j hij hj hi hj1 => ?_, fun j hj => h.rest j (by omega)⟩
 ·by_cases e : j = k
  ·subst e; exact ⟨fun _ => h.rest j (Nat.le_refl _), fun h' => by rw [hr] at h'; cases h'⟩
  ·exact h.row j (by omega)
 ·by_cases e : j = k
  ·subst e; rw [hr] at hj1; cases hj1
  ·exact h.ord i j hij (by omega) hi hj1
theorem Rows9.put {w : World} {tb : Nat} {K : Kn} {k : Nat} {vs : List Value} (h : Rows9 w tb K k vs) (hk : k < K.length) {u : Value} {s : St} (hs : K.getD k kn0 = (true, s)) (h8 : s.length = 8) {base : Nat} (ho : w.ownsRow base 46 4 u s.length (flatT s)) (hb : tb < base) (hbe : ∀ j, j < k -> (K.getD j kn0).1 = true -> blockOf (vs.getD j nilV) < base) : Rows9 (w.setCell ⟨tb, k, none⟩ u) tb K (k + 1) (vs.set k u) := by
 obtain ⟨g, cap, rfl, hbg, hgz, _⟩ := own_block ho (by omega)
 have hg := grown_set w tb k (.slice (some ⟨g, 0, none⟩) s.length cap)
 have hkl : k < vs.length := by rw [h.len]; exact hk
 have hrow : RowOf w tb (.slice (some ⟨g, 0, none⟩) s.length cap) (K.getD k kn0) := by
  rw [hs]
  refine ⟨fun h' => (by cases h'), fun _ => ⟨⟨base, ho⟩, h8, ?_, ?_⟩⟩
  ·show tb < g; omega
  ·show g < _; omega
 refine ⟨by rw [List.length_set]; exact h.len, h.cells.set k _, fun j hj => ?_, fun i j hij hj hi hj1 => ?_, fun j hj => ?_⟩
 ·rw [getD_set hkl]
  by_cases e : j = k
  ·subst e; rw [if_pos rfl]; exact hrow.grown hg (.inl rfl)
  ·rw [if_neg e]; exact (h.row j (by omega)).grown hg (.inl rfl)
 ·rw [getD_set hkl, getD_set hkl]
  rw [if_neg (show ¬ i = k by omega)]
  by_cases e : j = k
  ·subst e
   rw [if_pos rfl]
   have := hbe i hij hi
   show _ < g
   omega
  ·rw [if_neg e]; exact h.ord i j hij (by omega) hi hj1
 ·rw [getD_set hkl, if_neg (by omega)]; exact h.rest j (by omega)
set_option maxHeartbeats 800000 in
theorem lclone_any (b off n cap : Nat) (xs : List Ty) (w : World) (hs : SeesT w (.slice (some ⟨b, off, none⟩) n cap) xs) (hl : xs.length <= 1048576) : Calls Tryz.prog 18 #[.slice (some ⟨b, off, none⟩) n cap] w fun e w' => ∃ u, e = .returned u /\ w'.ownsRow w.heap.size 46 4 u xs.length (flatT xs) /\ Below w.heap.size w w' := by
 obtain ⟨i0, hi, hz0, hz1, hz2⟩ := qBi
 have HS := keepJ hs
 have heq : ∀ wx : World, (Go.binOp .eql 40 (.slice (some ⟨b, off, none⟩) n cap) (.slice none 0 0)).run Tryz.prog wx = .ok (.bool false) wx := fun _ => by kernel_rfl
 clear hs
 go_enter Tryz.func18, Tryz.ntmps18
 go_wp2_with (at_builtin; go_must (refine qAt rfl (.tmp 5) (.tmp 6) 40 rfl w.heap.size 46 i0 (tyV Ty.nil) Tryz.underlying40 hi hz0 hz1 hz2 rfl (.slice (some ⟨w.heap.size, 0, none⟩) 0 0) [] rfl (ownT_empty w _) _ xs rfl (HS.out.below ((Below.refl _ _).alloc (Nat.le_refl _) _)) (by unfold maxLen; simp; omega) (by simp; omega) (by simp) ?_); intro v' w1 hown1 hg1)
 go_ret
 refine ⟨_, rfl, by simpa using hown1, ?_⟩
 exact ((Below.refl w.heap.size w).alloc (Nat.le_refl _) _).grown hg1 (by simp) (fun k hk => (by have h : w.heap.size = k := (by simpa [Value.ownBlock] using hk); omega))
theorem run_sliceR (nb : Nat) (w : World) : (Instr.sliceAt 60 (.pointer (some ⟨nb, 1, none⟩)) none none none).run Tryz.prog w = .ok (.slice (some ⟨nb, 1, none⟩) 8 8) w := by kernel_rfl
theorem sees_regs {w : World} {nb : Nat} {r : Bool} {s : St} (hx : StAt w nb 0 r s) (h8 : s.length = 8) (hz : nb < w.heap.size) : SeesT w (.slice (some ⟨nb, 1, none⟩) 8 8) s := by
 refine ⟨some ⟨nb, 1, none⟩, 8, by rw [h8], by omega, by decide, fun e => (by cases e), fun _ => ⟨nb, 1, rfl, hz, fun k hk => ?_⟩⟩
 have := hx.typ h8 (k := k) (by omega)
 rw [Nat.zero_add] at this
 exact this
theorem run_makeR (n : Nat) (hn : n <= 64) (w : World) : (Instr.makeSlice 36 (.int .i64 n) (.int .i64 n)).run Tryz.prog w = .ok (.slice (some ⟨w.heap.size, 0, none⟩) n n) (w.alloc (.cells (List.replicate n nilV).toArray 40)) := by
 have hi : ∃ i, Tryz.prog.info? 40 = some i /\ i.size = 1 /\ i.zero = some nilV /\ i.bytes <= 1000000 := ⟨_, rfl, rfl, rfl, by decide⟩
 obtain ⟨i, h1, h2, h3, h4⟩ := hi
 have := run_make (P := Tryz.prog) w 36 40 i _ Tryz.underlying36 h1 h3 .i64 .i64 n n (by omega) (Int.le_refl _) (by have : (i.bytes : Int) * n <= 1000000 * 64 := Int.mul_le_mul (by omega) (by omega) (by omega) (by omega); omega) (by omega)
 rw [h2] at this
 simp only [Int.toNat_natCast, Nat.mul_one] at this
 rw [this]
 congr 3
 apply Array.ext_getElem?
 intro j
 by_cases hj : j < n
 ·rw [show (List.replicate n nilV).toArray[j]? = (List.replicate n nilV)[j]? from List.getElem?_toArray, List.getElem?_replicate, if_pos hj]
  simp only [madeCells, Array.getElem?_map]
  rw [Array.getElem?_range]
  simp [hj, nilV, Value.cells, Nat.mod_one]
 ·rw [Array.getElem?_eq_none (by rw [size_madeCells]; omega), Array.getElem?_eq_none (by simp; omega)]
theorem getD_some {vs : List Value} {k : Nat} (hk : k < vs.length) : vs[k]? = some (vs.getD k nilV) := by simp [List.getD, List.getElem?_eq_getElem hk]
set_option maxHeartbeats 3200000 in
theorem ltypes_any (vm : Value) (ms : List Int) (vc : Value) (xs : List In) (w : World) (hm : Sees .i64 w vm ms) (hx : SeesI w vc xs) :
  Calls Tryz.prog 10 #[.agg #[vm, vc]] w fun e w' =>
   (∃ P E : Int, inqR ms xs = .error (P, E) /\ E ≠ 0 /\ e = .returned (.tuple #[.slice none 0 0, .int .i64 E]) /\ Below w.heap.size w w') ∨
   (∃ (K : Kn) (tb : Nat) (vs : List Value), inqR ms xs = .ok K /\ Taken xs /\ mapsJ ms = true /\ runK xs ms.length xs.length = .ok K /\ K.length = xs.length /\ MadeK ms.length K /\ e = .returned (.tuple #[.slice (some ⟨tb, 0, none⟩) xs.length xs.length, .int .i64 0]) /\ Rows9 w' tb K xs.length vs /\ w.heap.size <= tb /\ Below w.heap.size w w') := by
 have HM := keepJ hm
 have HX := keepJ hx
 obtain ⟨ma, mcap, rfl⟩ : ∃ a c, vm = .slice a ms.length c := by obtain ⟨a, c, h, _⟩ := hm; exact ⟨a, c, h⟩
 obtain ⟨ca, ccap, rfl⟩ : ∃ a c, vc = .slice a xs.length c := by obtain ⟨a, c, h, _⟩ := hx; exact ⟨a, c, h⟩
 clear hm hx
 obtain ⟨vs0, HV0⟩ : ∃ vs0, Hid (vs0 = List.replicate xs.length nilV) := ⟨_, rfl⟩
 have hmk : ∀ wx : World, xs.length <= 64 -> (Instr.makeSlice 36 (.int .i64 xs.length) (.int .i64 xs.length)).run Tryz.prog wx = .ok (.slice (some ⟨wx.heap.size, 0, none⟩) xs.length xs.length) (wx.alloc (.cells vs0.toArray 40)) := fun wx h => by rw [HV0.out]; exact run_makeR xs.length h wx
 go_enter Tryz.func10, Tryz.ntmps10
 go_wp2_with (first
  | (go_at_call 13; go_must (refine (linquire_any _ ms _ xs _ (HM.out.below ((Below.refl _ _).alloc (Nat.le_refl _) _) (Nat.le_refl _)) (HX.out.below ((Below.refl _ _).alloc (Nat.le_refl _) _))).mono ?_); rintro e w1 (⟨P, E, hi, hE0, hP, rfl, hb⟩ | ⟨K, kb, hi, hT, hmf, hr, rfl, hk, hkb, hl, hMK, hb⟩) <;> (have HB := keepJ (qAl hb); have HI := keepJ hi; clear hb hi) <;> (try (have h64 := hT.top; have HT := keepJ hT; have HK := keepJ hk; have HKB := keepJ hkb; have HL := keepJ hl; have HMK := keepJ hMK; have HMF := keepJ hmf; have HRK := keepJ hr; clear hT hk hkb hl hMK hmf hr))))
 ·go_ret2
  exact .inl ⟨P, E, HI.out, hE0, rfl, HB.out⟩
 ·clear hmk
  obtain ⟨Y, tb, HY, HTB, HKY, HRY, hBY, htb⟩ : ∃ Y tb, Hid (Y = w1.alloc (Obj.cells vs0.toArray 40)) /\ Hid (w1.heap.size = tb) /\ Hid (Hp Y kb 62 (flatK K)) /\ Hid (Rows9 Y tb K 0 vs0) /\ Below w.heap.size w Y /\ (w.heap.size <= tb /\ kb < tb) :=
   ⟨_, _, rfl, rfl, HK.out.alloc _, ⟨by rw [HV0.out, HL.out]; simp, Hp.new w1 vs0 _, fun j hj => by omega, fun i j _ hj => by omega, fun j _ => by rw [HV0.out]; simp [List.getD, List.getElem?_replicate]; split <;> rfl⟩, HB.out.alloc HB.out.size _, HB.out.size, HK.out.lt⟩
  rw [<- HY.out, HTB.out]
  clear HY HTB
  have hx64 : (xs.length : Int) <= 64 := by omega
  go_loopw [24] (fun i wr => ∃ k : Nat, k <= xs.length /\ i = .int .i64 k /\ Hid (∃ vs, Rows9 wr tb K k vs /\ Hp wr kb 62 (flatK K) /\ Below w.heap.size w wr)) (fun i _ => xs.length - (intOf i).toNat)
  case atStart => exact ⟨0, by omega, rfl, vs0, HRY.out, HKY.out, hBY⟩
  case round =>
   obtain ⟨k, hk, rfl, HI2⟩ := hrel
   by_cases hlt : k < xs.length
   ·obtain ⟨vs, hR, hKr, hBr⟩ := HI2.out
    have HR := keepJ hR
    have HKr := keepJ hKr
    obtain ⟨r, s, HS⟩ : ∃ r s, Hid (K.getD k kn0 = (r, s)) := ⟨_, _, rfl⟩
    have hkK : k < K.length := by rw [HL.out]; exact hlt
    have h8 : s.length = 8 := by have := HMK.out.eight.at k; rw [HS.out] at this; exact this
    have HST := keepJ (show wr.rangeAt kb (k * 33) (stC r s) from hKr.state HMK.out.eight hkK HS.out)
    have HSZ := keepJ (sizeJ (r := r) h8)
    have HSA := keepJ (sizeJA (r := r) h8)
    have HS1 := keepJ (qBf r s)
    have hkI : (k : Int) < xs.length := by omega
    have hkz := hKr.lt
    have htz := hR.cells.lt
    clear hR hKr HI2
    obtain ⟨Y2, HY2, HB2, HR2, HK2, hB2, hz2, b0⟩ : ∃ Y2, Hid (Y2 = (wr.alloc (Obj.cells #[.bool false, .int .i64 0, .int .u64 0, .int .u64 0, .int .i64 0, .int .i64 0, .int .u64 0, .int .u64 0, .int .i64 0, .int .i64 0, .int .u64 0, .int .u64 0, .int .i64 0, .int .i64 0, .int .u64 0, .int .u64 0, .int .i64 0, .int .i64 0, .int .u64 0, .int .u64 0, .int .i64 0, .int .i64 0, .int .u64 0, .int .u64 0, .int .i64 0, .int .i64 0, .int .u64 0, .int .u64 0, .int .i64 0, .int .i64 0, .int .u64 0, .int .u64 0, .int .i64 0] 62)).setCells wr.heap.size 0 (stC r s).toArray.toList) /\ Hid (Hp Y2 wr.heap.size 62 (stC r s)) /\ Hid (Rows9 Y2 tb K k vs) /\ Hid (Hp Y2 kb 62 (flatK K)) /\ Below wr.heap.size wr Y2 /\ wr.heap.size < Y2.heap.size /\ Y2.cell? ⟨wr.heap.size, 0, none⟩ = some (.bool r) := by
     have hn : Hp (wr.alloc (Obj.cells #[.bool false, .int .i64 0, .int .u64 0, .int .u64 0, .int .i64 0, .int .i64 0, .int .u64 0, .int .u64 0, .int .i64 0, .int .i64 0, .int .u64 0, .int .u64 0, .int .i64 0, .int .i64 0, .int .u64 0, .int .u64 0, .int .i64 0, .int .i64 0, .int .u64 0, .int .u64 0, .int .i64 0, .int .i64 0, .int .u64 0, .int .u64 0, .int .i64 0, .int .i64 0, .int .u64 0, .int .u64 0, .int .i64 0, .int .i64 0, .int .u64 0, .int .u64 0, .int .i64 0] 62)) wr.heap.size 62 zeroC := Hp.new wr zeroC _
     have hb := hn.box (r := r) qAj h8
     have hbe : Below wr.heap.size wr ((wr.alloc (Obj.cells #[.bool false, .int .i64 0, .int .u64 0, .int .u64 0, .int .i64 0, .int .i64 0, .int .u64 0, .int .u64 0, .int .i64 0, .int .i64 0, .int .u64 0, .int .u64 0, .int .i64 0, .int .i64 0, .int .u64 0, .int .u64 0, .int .i64 0, .int .i64 0, .int .u64 0, .int .u64 0, .int .i64 0, .int .i64 0, .int .u64 0, .int .u64 0, .int .i64 0, .int .i64 0, .int .u64 0, .int .u64 0, .int .i64 0, .int .i64 0, .int .u64 0, .int .u64 0, .int .i64 0] 62)).setCells wr.heap.size 0 (stC r s)) := ((Below.refl _ _).alloc (Nat.le_refl _) _).trans (qAe (qAc _ _ _ _) (Nat.le_refl _) (by simp))
     exact ⟨_, rfl, hb, HR.out.grown hbe, HKr.out.below hbe hkz, hbe, hb.lt, hb.one.cell⟩
    have HTH := keepJ (show (wr.alloc (Obj.cells #[.bool false, .int .i64 0, .int .u64 0, .int .u64 0, .int .i64 0, .int .i64 0, .int .u64 0, .int .u64 0, .int .i64 0, .int .i64 0, .int .u64 0, .int .u64 0, .int .i64 0, .int .i64 0, .int .u64 0, .int .u64 0, .int .i64 0, .int .i64 0, .int .u64 0, .int .u64 0, .int .i64 0, .int .i64 0, .int .u64 0, .int .u64 0, .int .i64 0, .int .i64 0, .int .u64 0, .int .u64 0, .int .i64 0, .int .i64 0, .int .u64 0, .int .u64 0, .int .i64 0] 62)).there wr.heap.size 0 (stC r s).toArray.size from (by rw [qAx r h8]; exact (Hp.new wr zeroC _).there (by rw [qAj]; omega)))
    cases r with
    | false =>
     go_wp2_with (first
      | ((with_reducible refine wpList_load_mid ?qa 62 (.tmp 27) ?qb kb (k * 33) ?qc (stC false s) _ HST.out Tryz.underlying62 ?qd HSZ.out ?qe); (case qa => rfl); (case qb => rfl); (case qc => rfl); (case qd => rfl))
      | ((with_reducible refine wpList_store_mid ?ra 62 (.tmp 9) (.tmp 28) ?rb wr.heap.size 0 (stC false s).toArray ?rc ?rd HTH.out HSA.out HS1.out ?re); (case ra => rfl); (case rb => rfl); (case rc => rfl); (case rd => rfl); rw [<- HY2.out]))
     go_roundw
     case rel => exact ⟨k + 1, by omega, by go_num, vs, HR2.out.skip (by rw [HS.out]), HK2.out, hBr.trans (hB2.mono hBr.size)⟩
     case measure => simp [intOf]; omega
    | true =>
     have hsl := run_sliceR wr.heap.size
     have htz2 := HR2.out.cells.lt
     have hkz2 := HK2.out.lt
     go_wp2_with (first
      | ((with_reducible refine wpList_load_mid ?qa1 62 (.tmp 27) ?qb1 kb (k * 33) ?qc1 (stC true s) _ HST.out Tryz.underlying62 ?qd1 HSZ.out ?qe1); (case qa1 => rfl); (case qb1 => rfl); (case qc1 => rfl); (case qd1 => rfl))
      | ((with_reducible refine wpList_store_mid ?ra1 62 (.tmp 9) (.tmp 28) ?rb1 wr.heap.size 0 (stC true s).toArray ?rc1 ?rd1 HTH.out HSA.out HS1.out ?re1); (case ra1 => rfl); (case rb1 => rfl); (case rc1 => rfl); (case rd1 => rfl); rw [<- HY2.out])
      | (go_at_call 18; go_must (refine (lclone_any _ _ _ _ s _ (sees_regs HB2.out.one h8 hz2) (by omega)).mono ?_); rintro e w5 ⟨u, rfl, hown, hb5⟩; go_must (obtain ⟨g5, cap5, rfl, hbg5, hgz5, hcap5⟩ := own_block hown (by omega); have HR5 := keepJ (HR2.out.grown hb5); have HK5 := keepJ (HK2.out.below hb5 hkz2); have HB5 := keepJ (hBr.trans ((hB2.trans (hb5.mono (Nat.le_of_lt hz2))).mono hBr.size)); have HOW := keepJ hown; have c5 : w5.cell? ⟨tb, k, none⟩ = some (vs.getD k nilV) := HR5.out.cells.cell (getD_some (by rw [HR5.out.len]; exact hkK)); have f5 := HR5.out.cells.frozen k; clear hown hb5)))
     go_roundw
     case rel =>
      refine ⟨k + 1, by omega, by go_num, _, HR5.out.put hkK HS.out h8 (show w5.ownsRow Y2.heap.size 46 4 (.slice (some ⟨g5, 0, none⟩) 8 cap5) s.length (flatT s) from (by have := HOW.out; rw [h8] at this; rw [h8]; exact this)) htz2 (fun j hj hrj => ?_), HK5.out.far (by omega), qAa HB5.out htb.1⟩
      exact ((HR2.out.row j hj).2 hrj).2.2.2
     case measure => simp [intOf]; omega
   ·obtain rfl : k = xs.length := by omega
    obtain ⟨vs, hR, hKr, hBr⟩ := HI2.out
    have HR := keepJ hR
    clear hR hKr HI2
    go_wp2
    go_ret2
    exact .inr ⟨K, tb, vs, HI.out, HT.out, HMF.out, HRK.out, HL.out, HMK.out, rfl, HR.out, htb.1, hBr⟩
def Rd (B : Nat) (w : World) (v : Value) (S : List St) : Prop := ∃ ad c, v = .slice ad S.length c /\ S.length <= c /\ c <= 9223372036854775807 /\ ∀ i, i < S.length -> ∃ g a ca, ad = some ⟨g, 0, none⟩ /\ B <= g /\ g < w.heap.size /\ w.cell? ⟨g, i, none⟩ = some (.slice a (S.getD i []).length ca) /\ SeesT w (.slice a (S.getD i []).length ca) (S.getD i []) /\ ∀ x o, a = some ⟨x, o, none⟩ -> B <= x
theorem Rd.nil (B : Nat) (w : World) : Rd B w (.slice none 0 0) [] := ⟨none, 0, rfl, Nat.le_refl _, by decide, fun i hi => by simp at hi⟩
theorem Rd.below {B : Nat} {w w' : World} {v : Value} {S : List St} (h : Rd B w v S) (hb : Below w.heap.size w w') : Rd B w' v S := by
 obtain ⟨ad, c, hv, h1, h2, h3⟩ := h
 refine ⟨ad, c, hv, h1, h2, fun i hi => ?_⟩
 obtain ⟨g, a, ca, e, h4, h5, h6, h7, h8⟩ := h3 i hi
 exact ⟨g, a, ca, e, h4, Nat.lt_of_lt_of_le h5 hb.size, (hb.cell (p := ⟨g, i, none⟩) h5).trans h6, h7.below hb, h8⟩
theorem Ss.rd {B : Nat} {w : World} {v : Value} {S : List St} (h : Ss B w v S) : Rd B w v S := by
 obtain ⟨vs, hS⟩ := id h
 rcases id hS.row with ⟨hl, ⟨rfl, h0⟩ | ⟨g, c, cur, rfl, hg, hh, hc, hm, _⟩⟩
 ·refine ⟨none, 0, by rw [h0], by omega, by decide, fun i hi => by omega⟩
 ·refine ⟨_, c, rfl, hc, by unfold maxLen at hm; omega, fun i hi => ?_⟩
  obtain ⟨g', c', a, ca, hv, h1, h2, h3, h4, h5⟩ := h.get hi
  injection hv with e1 e2 e3
  injection e1 with e1
  injection e1 with e1
  subst e1
  exact ⟨g, a, ca, rfl, hg, h1, h3, h4, fun x o e => by subst e; exact (h5.lt x rfl).1⟩
theorem Rows9.rd {w : World} {tb : Nat} {K : Kn} {n : Nat} {vs : List Value} {S : List St} {B : Nat} (h : Rows9 w tb K n vs) (hn : K.length = n) (hS : S.length = n) (h64 : n <= 64) (hK : ∀ j, j < n -> S.getD j [] = if (K.getD j kn0).1 = true then (K.getD j kn0).2 else []) (hB : B <= tb) : Rd B w (.slice (some ⟨tb, 0, none⟩) n n) S := by
 refine ⟨_, n, by rw [hS], by omega, by omega, fun i hi => ?_⟩
 have hin : i < n := by omega
 have hcell := h.cells.cell (getD_some (show i < vs.length by rw [h.len]; omega))
 have hrow := h.row i hin
 rw [hK i hin]
 by_cases hk : (K.getD i kn0).1 = true
 ·rw [if_pos hk]
  obtain ⟨⟨base, ho⟩, h8, h1, h2⟩ := hrow.2 hk
  obtain ⟨g, cap, hv, _⟩ := own_block ho (by omega)
  rw [hv] at hcell ho h1
  refine ⟨tb, _, cap, rfl, hB, h.cells.lt, hcell, qBx ho, fun x o e => ?_⟩
  injection e with e
  injection e with e
  subst e
  have : tb < g := h1
  omega
 ·rw [if_neg hk]
  have hv := hrow.1 (by simpa using hk)
  rw [hv] at hcell
  exact ⟨tb, none, 0, rfl, hB, h.cells.lt, hcell, SeesT.nil w, fun x o e => by cases e⟩
theorem run_append_kept {P : Program} (w : World) (base : Nat) (t ty e : TypeId) (i : TypeInfo) (z : Value) (size bytes : Nat) (ht : P.underlying t = some (.slice e)) (hi : P.info? e = some i) (hz : i.zero = some z)
  (hsize : i.size = size) (hby : i.bytes = bytes) (hzs : z.cells.size = size) (hsz : 0 < size)
  (v : Value) (n : Nat) (xs : List Value) (hown : w.ownsRow base e size v n xs)
  (a : Addr) (m c : Nat) (news : List Value) (hl : news.length = m * size) (hnews : ∀ j u, news[j]? = some u -> w.cell? (a.add j) = some u) (h1 : ∀ u ∈ news, u.oneCell' = true)
  (h63 : n + m <= maxLen) (hbytes : (n + m) * bytes <= 140737488355328) (hbase : base <= w.heap.size) (hm : 0 < m) :
  ∃ v' w', (Builtin.append_ #[t, t] ty #[v, .slice (some a) m c]).run P w = .ok v' w' /\ w'.ownsRow base e size v' (n + m) (xs ++ news) /\ w.grownBy w' v.ownBlock /\
   ((∃ g cap, v = .slice (some ⟨g, 0, none⟩) n cap /\ v' = .slice (some ⟨g, 0, none⟩) (n + m) cap) ∨ (w.grownBy w' none /\ v'.ownBlock = some w.heap.size)) := by
 obtain ⟨v', w', hr, h2, h3, h4, h5⟩ := run_append_own_at (P := P) w base t ty e i z size bytes ht hi hz hsize hby hzs hsz v n xs hown a m c news hl hnews h1 h63 hbytes hbase
 refine ⟨v', w', hr, h2, h3, ?_⟩
 subst hsize
 subst hby
 rcases hown.2 with ⟨rfl, rfl⟩ | ⟨g, cap, cur, rfl, hbg, hg, hnc, hcm, hcs, htake⟩
 ·right
  refine ⟨h3, ?_⟩
  rcases h5 with h5 | h5
  ·exfalso
   rcases h2.2 with ⟨rfl, h0⟩ | ⟨g, cap, cur, rfl, _⟩
   ·omega
   ·cases h5
  ·exact h5
 ·by_cases hroom : n + m <= cap
  ·have hfit : n * i.size + news.length <= cur.size := by rw [hl, hcs, <- Nat.add_mul]; exact Nat.mul_le_mul_right _ hroom
   have hr2 := run_append_room (P := P) w t ty e i ht hi g n cap cur hg a m c news hl hnews h1 hroom hfit
   rw [hr] at hr2
   injection hr2 with e1 e2
   exact .inl ⟨g, cap, rfl, e1⟩
  ·have holds : ∀ j u, xs[j]? = some u -> w.cell? ((⟨g, 0, none⟩ : Addr).add j) = some u := hown.cells (g := g) rfl
   have hr2 := run_append_grow (P := P) w t ty e i z ht hi hz ⟨g, 0, none⟩ n cap xs hown.1 holds a m c news hl hnews (by omega) (by unfold maxLen at h63; omega) (growslice_fits (by omega) hbytes)
   rw [hr] at hr2
   injection hr2 with e1 e2
   subst e1 e2
   exact .inr ⟨⟨rfl, rfl, rfl, by simp, fun k hk _ => Below.heap_alloc w.drew _ k hk⟩, rfl⟩
theorem wpList_append_kept {P : Program} (w : World) {ops : Array Oper} {rest : List Oper} {o : Oper} {a : Act} {Q : Exit -> Act -> World -> Prop} (hgd : o.guard = none) (s x : Operand) (t : TypeId)
  (ho : o.op = .call { callee := .builtin .append, args := #[s, x], argTypes := #[t, t] })
  (base : Nat) (e : TypeId) (i : TypeInfo) (z : Value) (size bytes : Nat) (ht : P.underlying t = some (.slice e)) (hi : P.info? e = some i) (hz : i.zero = some z)
  (hsize : i.size = size) (hby : i.bytes = bytes) (hzs : z.cells.size = size) (hsz : 0 < size)
  (v : Value) (n : Nat) (xs : List Value) (hs : a.eval s = v) (hown : w.ownsRow base e size v n xs)
  (ad : Addr) (m c : Nat) (news : List Value) (hx : a.eval x = .slice (some ad) m c) (hl : news.length = m * size) (hnews : ∀ j u, news[j]? = some u -> w.cell? (ad.add j) = some u) (h1 : ∀ u ∈ news, u.oneCell' = true)
  (h63 : n + m <= maxLen) (hbytes : (n + m) * bytes <= 140737488355328) (hbase : base <= w.heap.size) (hm : 0 < m)
  (h : ∀ v' w', w'.ownsRow base e size v' (n + m) (xs ++ news) -> w.grownBy w' v.ownBlock -> ((∃ g cap, v = .slice (some ⟨g, 0, none⟩) n cap /\ v' = .slice (some ⟨g, 0, none⟩) (n + m) cap) ∨ (w.grownBy w' none /\ v'.ownBlock = some w.heap.size)) -> wpList P ops Q rest (a.put o.dst v') w') :
  wpList P ops Q (o :: rest) a w := by
 refine wpList_plain hgd fun K hK => ?_
 obtain ⟨v', w', hr, h2, h3, h4⟩ := run_append_kept (P := P) w base t o.type e i z size bytes ht hi hz hsize hby hzs hsz v n xs hown ad m c news hl hnews h1 h63 hbytes hbase hm
 unfold Oper.wp execOp
 simp only [ho, resolve, invoke, builtin, Sem.run_bind, Sem.run_pure, Result.andThen_ok, List.map_toArray, List.map_cons, List.map_nil, hs, hx, hr]
 exact hK _ _ (h v' w' h2 h3 h4)
set_option maxHeartbeats 6400000 in
theorem alike_any (va vb : Value) (S : List St) (A B : Nat) (w : World) (ha : Rd A w va S) (hb : Rd B w vb S) :
  Calls Tryz.prog 11 #[va, vb] w fun e w' => e = .returned (.bool true) /\ Below w.heap.size w w' := by
 obtain ⟨ad, c, rfl, hc1, hc2, hA⟩ := ha
 obtain ⟨bd, d, rfl, hd1, hd2, hB⟩ := hb
 have HA := keepJ hA
 have HB := keepJ hB
 obtain ⟨N, HN⟩ : ∃ N, Hid (S.length = N) := ⟨_, rfl⟩
 rw [HN.out] at hc1 hd1 HA HB ⊢
 clear hA hB
 go_enter Tryz.func11, Tryz.ntmps11
 go_wp2
 go_loopw [5] (fun v5 wr => ∃ i : Nat, i <= N /\ v5 = .int .i64 i /\ Hid (Below w.heap.size w wr)) (fun v5 _ => N - (intOf v5).toNat)
 case atStart => exact ⟨0, by omega, rfl, Below.refl _ _⟩
 case round =>
  rename World => w0
  obtain ⟨i, hi, rfl, HW⟩ := hrel
  by_cases hlt : i < N
  ·have hltI : (i : Int) < N := by omega
   obtain ⟨g, a, ca, e1, _, hg, hcell, hsees, _⟩ := HA.out i hlt
   obtain ⟨g', a', ca', e2, _, hg', hcell', hsees', _⟩ := HB.out i hlt
   subst e1 e2
   obtain ⟨s, HS⟩ : ∃ s, Hid (S.getD i [] = s) := ⟨_, rfl⟩
   rw [HS.out] at hcell hsees hcell' hsees'
   obtain ⟨n, Hn⟩ : ∃ n, Hid (s.length = n) := ⟨_, rfl⟩
   have HSa := keepJ hsees
   have HSb := keepJ hsees'
   rw [Hn.out] at hcell hcell' HSa HSb
   have hn9 : n <= 9223372036854775807 := by obtain ⟨_, _, _, h1, h2, _⟩ := hsees; have := Hn.out; unfold maxLen at h2; omega
   have HC : Hid (∀ wx, Below w.heap.size w wx -> wx.cell? ⟨g, i, none⟩ = some (.slice a n ca) /\ wx.cell? ⟨g', i, none⟩ = some (.slice a' n ca')) := fun wx hb => ⟨(hb.cell (p := ⟨g, i, none⟩) hg).trans hcell, (hb.cell (p := ⟨g', i, none⟩) hg').trans hcell'⟩
   clear hcell hcell' hsees hsees'
   obtain ⟨k0, k1⟩ := HC.out w0 HW.out
   have hz0 := HW.out.size
   have hg0 : g < w0.heap.size := by omega
   have hg0' : g' < w0.heap.size := by omega
   go_wp2
   go_region
   go_wp2
   go_loopw [6] (fun v6 wr => ∃ k : Nat, k <= n /\ v6 = .int .i64 k /\ Hid (Below w.heap.size w wr)) (fun v6 _ => n - (intOf v6).toNat)
   case atStart => exact ⟨0, by omega, rfl, ⟨HW.out.os, HW.out.tape, HW.out.output, HW.out.size, HW.out.block⟩⟩
   case round =>
    clear k0 k1 HW hz0 hg0 hg0'
    rename World => w1
    obtain ⟨k, hk, rfl, HW⟩ := hrel
    obtain ⟨k0, k1⟩ := HC.out w1 HW.out
    have hz1 := HW.out.size
    have hg1 : g < w1.heap.size := by omega
    have hg1' : g' < w1.heap.size := by omega
    by_cases hkn : k < n
    ·have hknI : (k : Int) < n := by omega
     obtain ⟨x, cx, hvx, hx1, hx2, hx3, hx4⟩ := HSa.out
     obtain ⟨y, cy, hvy, hy1, hy2, hy3, hy4⟩ := HSb.out
     injection hvx with ex1 _ ex3
     injection hvy with ey1 _ ey3
     subst ex1 ex3 ey1 ey3
     obtain ⟨p, o, e3, hp, hat⟩ := hx4 (fun e => by have := Hn.out; rw [e] at this; simp at this; omega)
     obtain ⟨p', o', e4, hp', hat'⟩ := hy4 (fun e => by have := Hn.out; rw [e] at this; simp at this; omega)
     subst e3 e4
     obtain ⟨⟨tk, tl, th, tm⟩, HTy⟩ : ∃ t, Hid (s.getD k Ty.nil = t) := ⟨_, rfl⟩
     have h1 := (hat k (by have := Hn.out; omega)).below HW.out hp
     have h2 := (hat' k (by have := Hn.out; omega)).below HW.out hp'
     rw [HTy.out] at h1 h2
     obtain ⟨y0, y1, y2, y3⟩ := h1
     obtain ⟨z0, z1, z2, z3⟩ := h2
     simp only at y0 y1 y2 y3 z0 z1 z2 z3
     have hnca : n <= ca := by have := Hn.out; omega
     have hncb : n <= ca' := by have := Hn.out; omega
     clear hat hat' hx4 hy4 hx3 hy3 hx2 hy2 hx1 hy1
     go_wp2
     go_region
     go_wp2
     go_roundw
     case rel => exact ⟨k + 1, by omega, by go_num, ⟨HW.out.os, HW.out.tape, HW.out.output, HW.out.size, HW.out.block⟩⟩
     case measure => simp [intOf]; omega
    ·have hknI : ¬ (k : Int) < n := by omega
     go_wp2
     go_roundw
     case rel => exact ⟨i + 1, by omega, by go_num, HW.out⟩
     case measure => simp [intOf]; omega
  ·have hltI : ¬ (i : Int) < N := by omega
   go_wp2
   go_ret
   exact ⟨rfl, HW.out⟩
structure Only (B1 B2 : Nat) (w w' : World) : Prop where
 os : w'.os = w.os
 tape : w'.tape = w.tape
 output : w'.output = w.output
 size : w.heap.size <= w'.heap.size
 block : ∀ k, k < w.heap.size -> (k < B1 ∨ B2 <= k) -> w'.heap[k]? = w.heap[k]?
theorem Only.refl (B1 B2 : Nat) (w : World) : Only B1 B2 w w := ⟨rfl, rfl, rfl, Nat.le_refl _, fun _ _ _ => rfl⟩
theorem Only.grown {B1 B2 : Nat} {w w' w2 : World} {row : Option Nat} (h : Only B1 B2 w w') (hg : w'.grownBy w2 row) (hr : ∀ b, row = some b -> (B1 <= b /\ b < B2) ∨ w.heap.size <= b) : Only B1 B2 w w2 :=
 ⟨hg.os.trans h.os, hg.tape.trans h.tape, hg.output.trans h.output, Nat.le_trans h.size hg.size, fun k hk ho => by
  rw [hg.block k (Nat.lt_of_lt_of_le hk h.size) (fun e => by have := hr k e.symm; omega)]
  exact h.block k hk ho⟩
theorem Only.cell {B1 B2 : Nat} {w w' : World} (h : Only B1 B2 w w') {b j : Nat} (hb : b < w.heap.size) (ho : b < B1 ∨ B2 <= b) : w'.cell? ⟨b, j, none⟩ = w.cell? ⟨b, j, none⟩ := World.cell?_of_block (h.block b hb ho)
theorem Only.to_below {B1 B2 B : Nat} {w w' : World} (h : Only B1 B2 w w') (hB : B <= B1) (hs : B <= w.heap.size) : Below B w w' := ⟨h.os, h.tape, h.output, h.size, fun k hk => h.block k (by omega) (.inl (by omega))⟩
theorem seesT_only {B1 B2 : Nat} {w w' : World} (h : Only B1 B2 w w') {v : Value} {s : St} (hs : SeesT w v s) (hB : ∀ x o n c, v = .slice (some ⟨x, o, none⟩) n c -> B2 <= x) : SeesT w' v s := by
 obtain ⟨a, cap, rfl, h1, h2, h3, h4⟩ := hs
 refine ⟨a, cap, rfl, h1, h2, h3, fun hne => ?_⟩
 obtain ⟨b, off, rfl, hlt, hat⟩ := h4 hne
 have hb := hB b off _ _ rfl
 refine ⟨b, off, rfl, Nat.lt_of_lt_of_le hlt h.size, fun k hk => ?_⟩
 obtain ⟨c0, c1, c2, c3⟩ := hat k hk
 exact ⟨(h.cell hlt (.inr hb)).trans c0, (h.cell hlt (.inr hb)).trans c1, (h.cell hlt (.inr hb)).trans c2, (h.cell hlt (.inr hb)).trans c3⟩
theorem Rd.only {B B1 B2 : Nat} {w w' : World} {v : Value} {S : List St} (h : Rd B w v S) (ho : Only B1 B2 w w') (hB : B2 <= B) : Rd B w' v S := by
 obtain ⟨ad, c, hv, h1, h2, h3⟩ := h
 refine ⟨ad, c, hv, h1, h2, fun i hi => ?_⟩
 obtain ⟨g, a, ca, e, h4, h5, h6, h7, h8⟩ := h3 i hi
 refine ⟨g, a, ca, e, h4, Nat.lt_of_lt_of_le h5 ho.size, (ho.cell h5 (.inr (by omega))).trans h6, seesT_only ho h7 (fun x o n c' e => ?_), h8⟩
 injection e with e
 exact Nat.le_trans hB (h8 x o e)
structure Pt (B1 B2 : Nat) (w0 w : World) (tb : Nat) (T : List St) (vs : List Value) : Prop where
 len : vs.length = T.length
 cells : Hp w tb 40 vs
 row : ∀ j, j < T.length -> w.ownsRow B1 46 4 (vs.getD j nilV) (T.getD j []).length (flatT (T.getD j []))
 low : ∀ j, j < T.length -> ∀ b, (vs.getD j nilV).ownBlock = some b -> b < B2
 two : ∀ i j, i < T.length -> j < T.length -> i ≠ j -> (vs.getD i nilV).ownBlock = none ∨ (vs.getD i nilV).ownBlock ≠ (vs.getD j nilV).ownBlock
 only : Only B1 B2 w0 w
theorem own_tb {w : World} {B : Nat} {v : Value} {n : Nat} {l : List Value} {tb : Nat} {vs : List Value} (h : w.ownsRow B 46 4 v n l) (hc : Hp w tb 40 vs) : v.ownBlock ≠ some tb := by
 rcases h with ⟨_, ⟨rfl, _⟩ | ⟨g, cap, cur, rfl, _, hh, _⟩⟩
 ·simp [Value.ownBlock]
 ·intro e
  have e4 : g = tb := by simpa [Value.ownBlock] using e
  subst e4
  unfold Hp at hc
  rw [hh] at hc
  injection hc with h1
  injection h1 with h2 h3
  exact absurd h3 (by decide)
theorem Pt.grown {B1 B2 : Nat} {w0 w w' : World} {tb : Nat} {T : List St} {vs : List Value} {row : Option Nat} (h : Pt B1 B2 w0 w tb T vs) (hg : w.grownBy w' row) (ht : row ≠ some tb) (hr : ∀ j, j < T.length -> (vs.getD j nilV).ownBlock = none ∨ (vs.getD j nilV).ownBlock ≠ row) (ho : ∀ b, row = some b -> (B1 <= b /\ b < B2) ∨ w0.heap.size <= b) : Pt B1 B2 w0 w' tb T vs :=
 ⟨h.len, h.cells.grown hg (fun e => ht e.symm), fun j hj => (h.row j hj).kept hg (hr j hj), h.low, h.two, h.only.grown hg ho⟩
theorem Pt.quiet {B1 B2 : Nat} {w0 w w' : World} {tb : Nat} {T : List St} {vs : List Value} (h : Pt B1 B2 w0 w tb T vs) (hg : w.grownBy w' none) : Pt B1 B2 w0 w' tb T vs :=
 h.grown hg (by simp) (fun j _ => by cases (vs.getD j nilV).ownBlock with | none => exact .inl rfl | some k => exact .inr (by simp)) (fun b e => by cases e)
theorem Pt.alloc {B1 B2 : Nat} {w0 w : World} {tb : Nat} {T : List St} {vs : List Value} (h : Pt B1 B2 w0 w tb T vs) (o : Obj) : Pt B1 B2 w0 (w.alloc o) tb T vs := h.quiet (World.grownBy_alloc w o none)
theorem setS_at {T : List St} {i : Nat} {s : St} (hi : i < T.length) (j : Nat) : (T.set i s).getD j [] = if j = i then s else T.getD j [] := by
 by_cases h : j = i
 ·subst h; simp [List.getD, List.getElem?_set, hi]
 ·simp [List.getD, List.getElem?_set, h, Ne.symm h]
theorem Pt.turn {B1 B2 : Nat} {w0 w w' : World} {tb : Nat} {T : List St} {vs : List Value} {i g : Nat} {s : St} (h : Pt B1 B2 w0 w tb T vs) (hi : i < T.length) (hv : (vs.getD i nilV).ownBlock = some g) (hown : w'.ownsRow B1 46 4 (vs.getD i nilV) s.length (flatT s)) (hg : w.grownBy w' (some g)) : Pt B1 B2 w0 w' tb (T.set i s) vs := by
 have hlt := (h.row i hi).lt g hv
 refine ⟨by rw [List.length_set]; exact h.len, h.cells.grown hg (fun e => own_tb (h.row i hi) h.cells (by rw [hv, e])), fun j hj => ?_, fun j hj => h.low j (by simpa using hj), fun a b ha hb hab => h.two a b (by simpa using ha) (by simpa using hb) hab, h.only.grown hg (fun b e => by injection e with e; subst e; exact .inl ⟨hlt.1, h.low i hi g hv⟩)⟩
 rw [List.length_set] at hj
 rw [setS_at hi]
 by_cases e : j = i
 ·subst e; rw [if_pos rfl]; exact hown
 ·rw [if_neg e]
  refine (h.row j hj).kept hg ?_
  have := h.two j i hj hi e
  rwa [hv] at this
theorem Pt.cell {B1 B2 : Nat} {w0 w : World} {tb : Nat} {T : List St} {vs : List Value} (h : Pt B1 B2 w0 w tb T vs) {j : Nat} (hj : j < T.length) : w.cell? ⟨tb, j, none⟩ = some (vs.getD j nilV) := h.cells.cell (getD_some (by rw [h.len]; exact hj))
theorem Rows9.pt {w w0 : World} {tb : Nat} {K : Kn} {n : Nat} {vs : List Value} {S : List St} {B1 : Nat} (h : Rows9 w tb K n vs) (hn : K.length = n) (hS : S.length = n) (hK : ∀ j, j < n -> S.getD j [] = if (K.getD j kn0).1 = true then (K.getD j kn0).2 else []) (hB : B1 <= tb) (hb : Below w.heap.size w w0) : Pt B1 w.heap.size w0 w0 tb S vs := by
 have hv : ∀ j, j < n -> (K.getD j kn0).1 = true -> ∃ g cap, vs.getD j nilV = .slice (some ⟨g, 0, none⟩) 8 cap /\ tb < g /\ g < w.heap.size := fun j hj hk => by
  obtain ⟨⟨base, ho⟩, h8, h1, h2⟩ := (h.row j hj).2 hk
  obtain ⟨g, cap, hv, _⟩ := own_block ho (by omega)
  rw [hv] at h1 h2
  rw [h8] at hv
  exact ⟨g, cap, hv, h1, h2⟩
 have hnil : ∀ j, j < n -> ¬ (K.getD j kn0).1 = true -> vs.getD j nilV = nilV := fun j hj hk => (h.row j hj).1 (by simpa using hk)
 refine ⟨by rw [h.len, hn, hS], h.cells.below hb h.cells.lt, fun j hj => ?_, fun j hj b e => ?_, fun i j hi hj hij => ?_, Only.refl _ _ _⟩
 ·rw [hS] at hj
  rw [hK j hj]
  by_cases hk : (K.getD j kn0).1 = true
  ·rw [if_pos hk]
   obtain ⟨⟨base, ho⟩, h8, h1, h2⟩ := (h.row j hj).2 hk
   refine qAz ?_ hb (Nat.le_refl _)
   obtain ⟨ho1, ⟨e, h0⟩ | ⟨g, cap, cur, e, hbg, r⟩⟩ := ho
   ·rw [h8] at h0; omega
   ·rw [e] at h1 ⊢
    have : tb < g := h1
    exact ⟨ho1, .inr ⟨g, cap, cur, rfl, by omega, r⟩⟩
  ·rw [if_neg hk, hnil j hj hk]
   exact World.ownsRow_nil _ _ _ _
 ·rw [hS] at hj
  by_cases hk : (K.getD j kn0).1 = true
  ·obtain ⟨g, cap, hv, _, h2⟩ := hv j hj hk
   rw [hv] at e
   have : g = b := by simpa [Value.ownBlock] using e
   omega
  ·rw [hnil j hj hk] at e
   simp [nilV, Value.ownBlock] at e
 ·rw [hS] at hi hj
  by_cases hki : (K.getD i kn0).1 = true
  ·by_cases hkj : (K.getD j kn0).1 = true
   ·right
    obtain ⟨g, cap, e1, _⟩ := hv i hi hki
    obtain ⟨g', cap', e2, _⟩ := hv j hj hkj
    have hord : blockOf (vs.getD i nilV) ≠ blockOf (vs.getD j nilV) := by
     rcases Nat.lt_or_ge i j with hl | hl
     ·have := h.ord i j hl hj hki hkj; omega
     ·have := h.ord j i (by omega) hi hkj hki; omega
    rw [e1, e2] at hord ⊢
    intro e
    apply hord
    simpa [Value.ownBlock, blockOf] using e
   ·right
    rw [hnil j hj hkj]
    obtain ⟨g, cap, e1, _⟩ := hv i hi hki
    rw [e1]
    simp [nilV, Value.ownBlock]
  ·left
   rw [hnil i hi hki]
   rfl
def pnt (j : Nat) : Ty := ⟨100 + j, 0, 0, 0⟩
def pntR (j : Nat) (s : St) (k : Nat) : St := List.replicate k (pnt j) ++ s.drop k
def pntU (S : List St) (i : Nat) : List St := (List.range S.length).map fun j => if j < i then pntR j (S.getD j []) (S.getD j []).length else S.getD j []
theorem pntR_len (j : Nat) {s : St} {k : Nat} (h : k <= s.length) : (pntR j s k).length = s.length := by simp [pntR]; omega
theorem pntR_zero (j : Nat) (s : St) : pntR j s 0 = s := rfl
theorem pntR_succ (j : Nat) {s : St} {k : Nat} (h : k < s.length) : (pntR j s k).set k (pnt j) = pntR j s (k + 1) := by
 unfold pntR
 rw [List.set_append_right _ _ (by simp), List.length_replicate, Nat.sub_self, List.drop_eq_getElem_cons h, List.set_cons_zero, List.replicate_succ', List.append_assoc]
 rfl
theorem qCi (S : List St) (i : Nat) : (pntU S i).length = S.length := by simp [pntU]
theorem pntU_at (S : List St) {i j : Nat} (hj : j < S.length) : (pntU S i).getD j [] = if j < i then pntR j (S.getD j []) (S.getD j []).length else S.getD j [] := by
 unfold pntU
 simp [List.getD, List.getElem?_map, List.getElem?_range hj]
theorem listS_ext {a b : List St} (hl : a.length = b.length) (h : ∀ j, j < a.length -> a.getD j [] = b.getD j []) : a = b := by
 apply List.ext_getElem hl
 intro r h1 h2
 have := h r h1
 rw [List.getD_eq_getElem?_getD, List.getD_eq_getElem?_getD, List.getElem?_eq_getElem h1, List.getElem?_eq_getElem h2] at this
 exact this
theorem pntU_zero (S : List St) : pntU S 0 = S := listS_ext (qCi S 0) fun j hj => by
 rw [qCi] at hj
 rw [pntU_at S hj, if_neg (by omega)]
theorem pntU_start (S : List St) {i : Nat} (hi : i < S.length) : (pntU S i).set i (pntR i (S.getD i []) 0) = pntU S i := listS_ext (by simp) fun j hj => by
 rw [List.length_set, qCi] at hj
 rw [setS_at (by rw [qCi]; exact hi)]
 split
 ·rename_i e; subst e; rw [pntU_at S hj, if_neg (by omega), pntR_zero]
 ·rfl
theorem pntU_next (S : List St) {i : Nat} (hi : i < S.length) : (pntU S i).set i (pntR i (S.getD i []) (S.getD i []).length) = pntU S (i + 1) := listS_ext (by simp [qCi]) fun j hj => by
 rw [List.length_set, qCi] at hj
 rw [setS_at (by rw [qCi]; exact hi)]
 split
 ·rename_i e; subst e; rw [pntU_at S hj, if_pos (by omega)]
 ·rename_i e
  rw [pntU_at S hj, pntU_at S hj]
  by_cases h : j < i
  ·rw [if_pos h, if_pos (by omega)]
  ·rw [if_neg h, if_neg (by omega)]
theorem pntU_all (S : List St) {j : Nat} (hj : j < S.length) : (pntU S S.length).getD j [] = List.replicate (S.getD j []).length (pnt j) := by
 rw [pntU_at S hj, if_pos hj]
 unfold pntR
 simp
end Go.Proofs.YtkcofelpndlplaaGreat
