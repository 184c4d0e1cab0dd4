
/-
  ScratchTotals, walked: the answer is true. Condition: the slices read as their numbers.
-/
import Derived.Test.YtmfgpaigabkbbaaW10Marks
namespace Go.Proofs.Ytmfgpaigabkbbaa
open Go.RowKit
set_option linter.unusedVariables false
set_option linter.unusedSimpArgs false
set_option maxRecDepth 100000

theorem nought_at0 (k : Nat) : nought.getD k 0 = 0 := by
  by_cases h : k < 16
  · exact (by decide : ∀ k : Fin 16, nought.getD k 0 = 0) ⟨k, h⟩
  · rw [List.getD_eq_getElem?_getD, List.getElem?_eq_none (by show 16 ≤ k; omega)]; rfl
theorem raiseL_at (cs xs : List Int) {i : Nat} (h : i < 16) : (raiseL cs xs).getD i 0 = if i < xs.length then addW (cs.getD i 0) (xs.getD i 0) else cs.getD i 0 := by
  unfold raiseL
  rw [raiseU_at _ _ _ h]
  by_cases h2 : i < xs.length
  · rw [if_pos ⟨h, h2⟩, if_pos h2]
  · rw [if_neg (fun e => h2 e.2), if_neg h2]
theorem raiseL_len (cs xs : List Int) : (raiseL cs xs).length = 16 := raiseU_len _ _ _
theorem W64L.of16 {cs : List Int} (hl : cs.length = 16) (h : ∀ i, i < 16 → 0 ≤ cs.getD i 0 ∧ cs.getD i 0 < 18446744073709551616) : W64L cs := fun i => by
  by_cases hi : i < 16
  · exact h i hi
  · rw [List.getD_eq_getElem?_getD, List.getElem?_eq_none (by omega)]
    show (0 : Int) ≤ 0 ∧ (0 : Int) < 18446744073709551616
    omega
theorem W64L.raise {cs xs : List Int} (h : W64L cs) : W64L (raiseL cs xs) := W64L.of16 (raiseL_len _ _) fun i hi => by
  rw [raiseL_at _ _ hi]
  split
  · exact addW_in _ _
  · exact h i
theorem W64L.tot (ss : List (Option (List Int))) : W64L (totL ss) := by
  unfold totL
  have : ∀ (ss : List (Option (List Int))) (a : List Int), W64L a → W64L (ss.foldl totStep a) := by
    intro ss
    induction ss with
    | nil => intro a h; exact h
    | cons o ss ih =>
      intro a h
      refine ih _ ?_
      cases o with
      | none => exact h
      | some cs => exact h.raise
  exact this ss _ W64L.nought
theorem add3 (p q r : Prop) [Decidable p] [Decidable q] [Decidable r] (a b c : Int) :
    addW (addW 0 (if r then addW (if p then addW 0 a else 0) c else if p then addW 0 a else 0)) (if q then addW 0 b else 0) = addW 0 (if p then addW (if q then addW (if r then addW 0 c else 0) b else if r then addW 0 c else 0) a else if q then addW (if r then addW 0 c else 0) b else if r then addW 0 c else 0) := by
  unfold addW
  by_cases hp : p <;> by_cases hq : q <;> by_cases hr : r <;> simp only [hp, hq, hr, if_true, if_false] <;> omega
theorem add3' (p q r : Prop) [Decidable p] [Decidable q] [Decidable r] (a b c : Int) :
    addW (addW 0 (if q then addW 0 b else 0)) (if r then addW (if p then addW 0 a else 0) c else if p then addW 0 a else 0) = addW 0 (if p then addW (if q then addW (if r then addW 0 c else 0) b else if r then addW 0 c else 0) a else if q then addW (if r then addW 0 c else 0) b else if r then addW 0 c else 0) := by
  unfold addW
  by_cases hp : p <;> by_cases hq : q <;> by_cases hr : r <;> simp only [hp, hq, hr, if_true, if_false] <;> omega
def xL (a c : List Int) : List Int := raiseL (raiseL nought a) c
def oL (a b c : List Int) : List Int := raiseL (raiseL (raiseL nought c) b) a
theorem tot_two (p q : List Int) : totL [some p, some q] = raiseL (raiseL nought p) q := rfl
theorem tot_two' (p : List Int) : totL [some p, none] = raiseL nought p := rfl
theorem tot_xy (a b c : List Int) : totL [some (xL a c), some (raiseL nought b)] = totL [some (oL a b c), none] := by
  rw [tot_two, tot_two']
  refine list16 (raiseL_len _ _) (raiseL_len _ _) fun i hi => ?_
  unfold xL oL
  simp only [raiseL_at _ _ hi, raiseL_len, if_pos hi, nought_at0]
  exact add3 _ _ _ _ _ _
theorem tot_yx (a b c : List Int) : totL [some (raiseL nought b), some (xL a c)] = totL [some (oL a b c), none] := by
  rw [tot_two, tot_two']
  refine list16 (raiseL_len _ _) (raiseL_len _ _) fun i hi => ?_
  unfold xL oL
  simp only [raiseL_at _ _ hi, raiseL_len, if_pos hi, nought_at0]
  exact add3' _ _ _ _ _ _
theorem own_baseS {w : World} {base base' : Nat} {e : TypeId} {size : Nat} {v : Value} {n : Nat} {xs : List Value} (h : w.ownsRow base' e size v n xs) (hb : base ≤ base') : w.ownsRow base e size v n xs := by
  rcases h with ⟨h1, h2 | ⟨g, cap, cur, hv, hg, r⟩⟩
  · exact ⟨h1, .inl h2⟩
  · exact ⟨h1, .inr ⟨g, cap, cur, hv, by omega, r⟩⟩
/-- Three scratches. -/
structure T3 (w wk : World) (bx bY bo : Nat) (Z cx cy co : List Int) : Prop where
  x : Sc wk bx Z cx
  y : Sc wk bY Z cy
  o : Sc wk bo Z co
  b : Below w.heap.size w wk
theorem T3.below {w wk w' : World} {bx bY bo : Nat} {Z cx cy co : List Int} (h : T3 w wk bx bY bo Z cx cy co) (hb : Below wk.heap.size wk w') : T3 w w' bx bY bo Z cx cy co :=
  ⟨h.x.below hb h.x.lt, h.y.below hb h.y.lt, h.o.below hb h.o.lt, h.b.trans (hb.mono h.b.size)⟩
theorem T3.grown {w wk w' : World} {bx bY bo g : Nat} {Z cx cy co : List Int} (h : T3 w wk bx bY bo Z cx cy co) (hg : wk.grownBy w' (some g)) (h1 : g ≠ bx) (h2 : g ≠ bY) (h3 : g ≠ bo) (hw : w.heap.size ≤ g) : T3 w w' bx bY bo Z cx cy co :=
  ⟨h.x.grown hg (fun e => h1 (by injection e with e; exact e.symm)), h.y.grown hg (fun e => h2 (by injection e with e; exact e.symm)), h.o.grown hg (fun e => h3 (by injection e with e; exact e.symm)), own_grown h.b hg hw⟩
theorem T3.raiseX {w wk w' : World} {bx bY bo : Nat} {Z cx cy co c : List Int} (h : T3 w wk bx bY bo Z cx cy co) (hs : Sc w' bx Z c) (hg : wk.grownBy w' (some bx)) (h0 : w.heap.size ≤ bx) (h1 : bx < bY) (h2 : bY < bo) : T3 w w' bx bY bo Z c cy co :=
  ⟨hs, h.y.grown hg (fun e => by injection e with e; omega), h.o.grown hg (fun e => by injection e with e; omega), own_grown h.b hg h0⟩
theorem T3.raiseY {w wk w' : World} {bx bY bo : Nat} {Z cx cy co c : List Int} (h : T3 w wk bx bY bo Z cx cy co) (hs : Sc w' bY Z c) (hg : wk.grownBy w' (some bY)) (h0 : w.heap.size ≤ bx) (h1 : bx < bY) (h2 : bY < bo) : T3 w w' bx bY bo Z cx c co :=
  ⟨h.x.grown hg (fun e => by injection e with e; omega), hs, h.o.grown hg (fun e => by injection e with e; omega), own_grown h.b hg (by omega)⟩
theorem T3.raiseO {w wk w' : World} {bx bY bo : Nat} {Z cx cy co c : List Int} (h : T3 w wk bx bY bo Z cx cy co) (hs : Sc w' bo Z c) (hg : wk.grownBy w' (some bo)) (h0 : w.heap.size ≤ bx) (h1 : bx < bY) (h2 : bY < bo) : T3 w w' bx bY bo Z cx cy c :=
  ⟨h.x.grown hg (fun e => by injection e with e; omega), h.y.grown hg (fun e => by injection e with e; omega), hs, own_grown h.b hg (by omega)⟩
theorem raise_old {w wk : World} {b : Nat} {Z cs xs : List Int} {v : Value} (h : Sc wk b Z cs) (hb : Below w.heap.size w wk) (hw : w.heap.size ≤ b) (hs : Sees .u64 w v xs) : Calls Try.prog 13 #[.pointer (some ⟨b, 16, none⟩), v] wk fun e w' => e = .returned (.tuple #[]) ∧ Sc w' b Z (raiseL cs xs) ∧ wk.grownBy w' (some b) ∧ w'.heap.size = wk.heap.size :=
  raise_any wk h fun w' hg => hs.below (own_grown hb hg hw) (Nat.le_refl _)
set_option maxHeartbeats 3200000 in
theorem totals10_any (va : Value) (a : List Int) (vb : Value) (b : List Int) (vc : Value) (c : List Int) (w : World) (ha : Sees .u64 w va a) (za : a.length * Try.prog.bytesOf 32 ≤ reachBytes) (hb : Sees .u64 w vb b) (zb : b.length * Try.prog.bytesOf 32 ≤ reachBytes) (hc : Sees .u64 w vc c) (zc : c.length * Try.prog.bytesOf 32 ≤ reachBytes) :
    Calls Try.prog 5 #[va, vb, vc] w fun e w' => e = .returned (.bool true) ∧ Below w.heap.size w w' := by
  obtain ⟨Z, HZ⟩ : ∃ Z, Hid (nought = Z) := ⟨_, rfl⟩
  have HA : Hid (Sees .u64 w va a) := ha
  have HB : Hid (Sees .u64 w vb b) := hb
  have HC : Hid (Sees .u64 w vc c) := hc
  obtain ⟨aa, ca, rfl⟩ := ha.shape
  obtain ⟨ab, cb, rfl⟩ := hb.shape
  obtain ⟨ac, cc, rfl⟩ := hc.shape
  clear ha hb hc za zb zc
  go_enter Try.func5, Try.ntmps5
  go_wp2_with (first
    | (go_at_call 7; go_must (refine (awake_any _).mono ?_); rintro e w1 ⟨rfl, hb1⟩; have HB1 : Hid (Below w.heap.size w w1) := hb1; have hz1 := hb1.size; clear hb1)
    | (go_at_call 8; have hq := HB1; clear hq; go_must (refine (new_as HZ _).mono ?_); rintro e w2 ⟨rfl, hs2, hz2', hb2⟩; have HS2 : Hid (Sc w2 w1.heap.size Z Z) := hs2; have HB2 : Hid (Below w.heap.size w w2) := HB1.out.trans (hb2.mono hz1); have hz2 : w1.heap.size < w2.heap.size := (by omega); clear hs2 hz2' hb2 HB1)
    | (go_at_call 8; have hq := HB2; clear hq; go_must (refine (new_as HZ _).mono ?_); rintro e w3 ⟨rfl, hs3, hz3', hb3⟩; have HS3 : Hid (Sc w3 w2.heap.size Z Z ∧ Sc w3 w1.heap.size Z Z) := ⟨hs3, HS2.out.below hb3 hz2⟩; have HB3 : Hid (Below w.heap.size w w3) := HB2.out.trans (hb3.mono HB2.out.size); have hz3 : w2.heap.size < w3.heap.size := (by omega); clear hs3 hz3' hb3 HB2 HS2)
    | (go_at_call 8; have hq := HB3; clear hq; go_must (refine (new_as HZ _).mono ?_); rintro e w4 ⟨rfl, hs4, hz4', hb4⟩; have HT0 : Hid (T3 w w4 w1.heap.size w2.heap.size w3.heap.size Z Z Z Z) := ⟨HS3.out.2.below hb4 (by omega), HS3.out.1.below hb4 hz3, hs4, HB3.out.trans (hb4.mono HB3.out.size)⟩; clear hs4 hz4' hb4 HB3 HS3)
    | (go_at_call 13; have hq := HT0; clear hq; go_must (refine (raise_old HT0.out.x HT0.out.b hz1 HA.out).mono ?_); rintro e w5 ⟨rfl, hs5, hg5, hz5'⟩; have HT1 : Hid (T3 w w5 w1.heap.size w2.heap.size w3.heap.size Z (raiseL Z a) Z Z) := HT0.out.raiseX hs5 hg5 hz1 hz2 hz3; clear hs5 hg5 hz5' HT0)
    | (go_at_call 13; have hq := HT1; clear hq; go_must (refine (raise_old HT1.out.y HT1.out.b (by omega) HB.out).mono ?_); rintro e w6 ⟨rfl, hs6, hg6, hz6'⟩; have HT2 : Hid (T3 w w6 w1.heap.size w2.heap.size w3.heap.size Z (raiseL Z a) (raiseL Z b) Z) := HT1.out.raiseY hs6 hg6 hz1 hz2 hz3; clear hs6 hg6 hz6' HT1)
    | (go_at_call 13; have hq := HT2; clear hq; go_must (refine (raise_old HT2.out.x HT2.out.b hz1 HC.out).mono ?_); rintro e w7 ⟨rfl, hs7, hg7, hz7'⟩; have HT3 : Hid (T3 w w7 w1.heap.size w2.heap.size w3.heap.size Z (raiseL (raiseL Z a) c) (raiseL Z b) Z) := HT2.out.raiseX hs7 hg7 hz1 hz2 hz3; clear hs7 hg7 hz7' HT2)
    | (go_at_call 13; have hq := HT3; clear hq; go_must (refine (raise_old HT3.out.o HT3.out.b (by omega) HC.out).mono ?_); rintro e w8 ⟨rfl, hs8, hg8, hz8'⟩; have HT4 : Hid (T3 w w8 w1.heap.size w2.heap.size w3.heap.size Z (raiseL (raiseL Z a) c) (raiseL Z b) (raiseL Z c)) := HT3.out.raiseO hs8 hg8 hz1 hz2 hz3; clear hs8 hg8 hz8' HT3)
    | (go_at_call 13; have hq := HT4; clear hq; go_must (refine (raise_old HT4.out.o HT4.out.b (by omega) HB.out).mono ?_); rintro e w9 ⟨rfl, hs9, hg9, hz9'⟩; have HT5 : Hid (T3 w w9 w1.heap.size w2.heap.size w3.heap.size Z (raiseL (raiseL Z a) c) (raiseL Z b) (raiseL (raiseL Z c) b)) := HT4.out.raiseO hs9 hg9 hz1 hz2 hz3; clear hs9 hg9 hz9' HT4)
    | (go_at_call 13; have hq := HT5; clear hq; go_must (refine (raise_old HT5.out.o HT5.out.b (by omega) HA.out).mono ?_); rintro e wA ⟨rfl, hsA, hgA, hzA'⟩; have HT6 : Hid (T3 w wA w1.heap.size w2.heap.size w3.heap.size nought (xL a c) (raiseL nought b) (oL a b c)) := by
        (have hh := HT5.out.raiseO hsA hgA hz1 hz2 hz3; rw [← HZ.out] at hh; exact hh)
       clear hsA hgA hzA' HT5)
    | (go_at_call 11; have hq := HT6; clear hq; go_must (refine (totals_any _ (two_lit (PtrIs.sc (HT6.out.x.alloc _)) (PtrIs.sc (HT6.out.y.alloc _)))).mono ?_); rintro e wB ⟨u, rfl, ho, hb'⟩; go_must (have hbB : Below wA.heap.size wA wB := (below_alloc _ _).trans (hb'.mono (by simp)); obtain ⟨gs, cs, rfl, hgs0, hgs1, hcs1, hcs2, _⟩ := own_open ho (by decide); have HO1 : Hid (wB.ownsRow w.heap.size 32 1 (.slice (some ⟨gs, 0, none⟩) 16 cs) 16 (nums (totL [some (xL a c), some (raiseL nought b)]))) := own_baseS ho (by have := HT6.out.b.size; simp; omega); have hgs : w3.heap.size < gs := (by have := HT6.out.o.lt; simp at hgs0; omega); have HT7 : Hid (T3 w wB w1.heap.size w2.heap.size w3.heap.size nought (xL a c) (raiseL nought b) (oL a b c)) := HT6.out.below hbB; clear hb' hbB ho HT6 hgs0))
    | (go_at_call 11; have hq := HT7; clear hq; go_must (refine (totals_any _ (two_lit (PtrIs.sc (HT7.out.o.alloc _)) (PtrIs.nil _))).mono ?_); rintro e wC ⟨u, rfl, ho, hb'⟩; go_must (have hbC : Below wB.heap.size wB wC := (below_alloc _ _).trans (hb'.mono (by simp)); obtain ⟨gt, ct, rfl, hgt0, hgt1, hct1, hct2, _⟩ := own_open ho (by decide); have HN : Hid (Sees .u64 wC (.slice (some ⟨gt, 0, none⟩) 16 ct) (totL [some (oL a b c), none])) := Sees.own (by rw [tot_len]; exact ho) (W64L.tot _).wf; have hgt : gs < gt := (by simp at hgt0; omega); have HT8 : Hid (T3 w wC w1.heap.size w2.heap.size w3.heap.size nought (xL a c) (raiseL nought b) (oL a b c)) := HT7.out.below hbC; have HO2 : Hid (wC.ownsRow w.heap.size 32 1 (.slice (some ⟨gs, 0, none⟩) 16 cs) 16 (nums (totL [some (xL a c), some (raiseL nought b)]))) := own_below HO1.out hbC (Nat.le_refl _); clear hb' hbC ho HT7 hgt0 HO1))
    | (go_at_call 10; have hq := HT8; clear hq; go_must (refine (numbers_any _ _ _ _ _ (Sees.own (by rw [tot_len]; exact HO2.out) (W64L.tot _).wf) HN.out).mono ?_); rintro e wD ⟨rfl, nD, rfl⟩; rw [eqB_true (tot_xy a b c)]))
  unfold maxLen at hcs2 hct2
  obtain ⟨i8, hi8, hz80, hz81, hz82⟩ := info_parts (P := Try.prog) (e := 32) (z := .int .u64 0) (size := 1) (bytes := 8) rfl
  obtain ⟨LT, HLT⟩ : ∃ LT, Hid (totL [some (oL a b c), none] = LT) := ⟨_, rfl⟩
  have HND : Hid (Sees .u64 (wC.drewN nD) (.slice (some ⟨gt, 0, none⟩) 16 ct) LT) := by rw [← HLT.out]; exact HN.out.drewN _
  have HTD : Hid (T3 w (wC.drewN nD) w1.heap.size w2.heap.size w3.heap.size nought (xL a c) (raiseL nought b) (oL a b c)) := HT8.out.below (below_drewN (Below.refl _ _) _)
  have HOD : Hid (∃ L, L.length = 16 ∧ (wC.drewN nD).ownsRow w.heap.size 32 1 (.slice (some ⟨gs, 0, none⟩) 16 cs) 16 (nums L)) := ⟨_, tot_len _, HO2.out⟩
  obtain ⟨wD, HWD⟩ : ∃ wD, Hid (wC.drewN nD = wD) := ⟨_, rfl⟩
  rw [HWD.out] at HND HTD HOD ⊢
  have HYX : Hid (totL [some (raiseL nought b), some (xL a c)] = LT) := (tot_yx a b c).trans HLT.out
  clear HN HO2 HT8 HWD HA HB HC HZ
  go_loopw [12] (fun i wr => ∃ k : Nat, k ≤ 16 ∧ i = .int .i64 k ∧ Hid (∃ L, L.length = 16 ∧ wr.ownsRow w.heap.size 32 1 (.slice (some ⟨gs, 0, none⟩) 16 cs) 16 (nums L)) ∧ Hid (wD.grownBy wr (some gs))) (fun i _ => 16 - (intOf i).toNat)
  case atStart => exact ⟨0, by omega, rfl, HOD.out, grownJ_refl _ _⟩
  case round =>
    clear HOD
    obtain ⟨k, hk, rfl, HL, HG⟩ := hrel
    obtain ⟨L, hL, hown⟩ := HL.out
    have hLH : Hid (L.length = 16) := hL
    by_cases hlt : k < 16
    · have hkI : (k : Int) < 16 := by omega
      have c1 := hown.cellAt k (by omega)
      rw [nums_at L (by omega)] at c1
      have f1 := hown.frozenAt k
      obtain ⟨y, HY⟩ : ∃ y, Hid (L.getD k 0 = y) := ⟨_, rfl⟩
      rw [HY.out] at c1
      have R := hown.stored k (.int .u64 (addW y 1))
      have HG' : Hid (wD.grownBy _ (some gs)) := grown_trans HG.out (show wr.grownBy _ (some gs) from R.2)
      have HR1 : Hid _ := R.1
      clear hown R HL hL
      go_wp2
      go_roundw
      case rel => exact ⟨k + 1, by omega, by go_num, ⟨L.set k (addW y 1), by rw [List.length_set]; exact hLH.out, by rw [← nums_set]; exact HR1.out⟩, HG'.out⟩
      case measure => simp [intOf]; omega
    · have hkn : ¬ (k : Int) < 16 := by omega
      have HOL : Hid (wr.ownsRow w.heap.size 32 1 (.slice (some ⟨gs, 0, none⟩) 16 cs) L.length (L.map (Value.int .u64))) := by rw [hL]; exact hown
      have HTr : Hid (T3 w wr w1.heap.size w2.heap.size w3.heap.size nought (xL a c) (raiseL nought b) (oL a b c)) := HTD.out.grown HG.out (by omega) (by omega) (by omega) (by omega)
      have HNr : Hid (Sees .u64 wr (.slice (some ⟨gt, 0, none⟩) 16 ct) LT) := HND.out.grown HG.out (by omega)
      have h18 : Hid ((L ++ [1, 2]).length = 18) := by show _ = _; rw [List.length_append, hL]; rfl
      clear hlt hown HL hL HG HTD HND
      go_wp2_with (first
        | (at_builtin; have hq := HOL; clear hq; go_must (refine wpList_append_sees rfl (.tmp 76) (.tmp 77) 33 rfl w.heap.size 32 i8 (.int .u64 0) 8 Try.underlying33 hi8 hz80 hz81 hz82 rfl .u64 _ L rfl (HOL.out.alloc _) _ [1, 2] rfl (Sees.lit wr .u64 32 [1, 2] _ 2 rfl rfl (by decide) (by decide)) (by rw [hLH.out]; decide) (by rw [hLH.out]; decide) (by have := HTr.out.b.size; simp; omega) ?_); intro v9 w9' hown9 hg9; go_must (rw [h18.out] at hown9; obtain ⟨g9, c9, rfl, _⟩ := own_open hown9 (by decide); have hg9 : (wr.alloc _).grownBy w9' (some gs) := hg9; have HT9 : Hid (T3 w w9' w1.heap.size w2.heap.size w3.heap.size nought (xL a c) (raiseL nought b) (oL a b c)) := (HTr.out.below (below_alloc _ _)).grown hg9 (by omega) (by omega) (by omega) (by omega); have HN9 : Hid (Sees .u64 w9' (.slice (some ⟨gt, 0, none⟩) 16 ct) LT) := (HNr.out.alloc _).grown hg9 (by omega); clear hown9 hg9 HOL HTr HNr))
        | (go_at_call 11; go_must (refine (totals_any _ (two_lit (PtrIs.sc (HT9.out.y.alloc _)) (PtrIs.sc (HT9.out.x.alloc _)))).mono ?_); rintro e wE ⟨u, rfl, ho, hb'⟩; go_must (have hbE : Below w9'.heap.size w9' wE := (below_alloc _ _).trans (hb'.mono (by simp)); have HOE : Hid (Sees .u64 wE u LT) := (by have hh := Sees.own (k := .u64) (xs := totL [some (raiseL nought b), some (xL a c)]) (by rw [tot_len]; exact ho) (W64L.tot _).wf; rw [HYX.out] at hh; exact hh); have HNE : Hid (Sees .u64 wE (.slice (some ⟨gt, 0, none⟩) 16 ct) LT) := HN9.out.below hbE (Nat.le_refl _); have HBE : Hid (Below w.heap.size w wE) := HT9.out.b.trans (hbE.mono HT9.out.b.size); clear hb' hbE ho HT9 HN9))
        | (go_at_call 10; go_must (refine (numbers_any u _ LT LT _ HOE.out HNE.out).mono ?_); rintro e wF ⟨rfl, nF, rfl⟩; rw [eqB_true (rfl : LT = LT)]))
      go_ret
      exact ⟨rfl, below_drewN HBE.out _⟩
end Go.Proofs.Ytmfgpaigabkbbaa
