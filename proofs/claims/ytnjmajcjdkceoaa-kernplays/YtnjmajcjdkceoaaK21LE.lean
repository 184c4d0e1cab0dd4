
/-
  The landed kern of layer 21: Pick, Fair, and what the walks ask of it. Condition: it lies where the pointer says; what is handed in lies elsewhere.
-/
import Derived.Test.YtnjmajcjdkceoaaTk
import Derived.Test.YtnjmajcjdkceoaaK21LB
namespace Go.Proofs.Ytnjmajcjdkceoaa
open Go.RowKit
set_option linter.unusedVariables false
set_option linter.unusedSimpArgs false
set_option maxRecDepth 100000
section
variable {w w' : World} {b g : Nat} {K K' : Kn}
theorem lmready (h : Lm w b g K) (hk : K.Ok) {A : List Int} (HA : Hid (K.inM 1 = A)) : Calls Try.prog 20 #[.pointer (some ⟨b, 0, none⟩)] w fun e w' => ∃ v, e = .returned v ∧ RoN w' w.heap.size v A ∧ Below w.heap.size w w' := by
  go_enter Try.func20, Try.ntmps20
  go_wp2_with (go_at_call 26; go_must (refine (lmthose h hk 1 HA).mono ?_); rintro e w2 ⟨u, rfl, hu, hb2⟩; go_must (have HU := keepG hu; have HB2 := keepG hb2; clear hu hb2))
  go_ret
  exact ⟨_, rfl, HU.out, HB2.out⟩
theorem lmended (h : Lm w b g K) (hk : K.Ok) {A : List Int} (HA : Hid (K.inM 2 = A)) : Calls Try.prog 22 #[.pointer (some ⟨b, 0, none⟩)] w fun e w' => ∃ v, e = .returned v ∧ RoN w' w.heap.size v A ∧ Below w.heap.size w w' := by
  go_enter Try.func22, Try.ntmps22
  go_wp2_with (go_at_call 26; go_must (refine (lmthose h hk 2 HA).mono ?_); rintro e w2 ⟨u, rfl, hu, hb2⟩; go_must (have HU := keepG hu; have HB2 := keepG hb2; clear hu hb2))
  go_ret
  exact ⟨_, rfl, HU.out, HB2.out⟩
set_option maxHeartbeats 3200000 in
theorem lmpick (h : Lm w b g K) (hk : K.Ok) (hl : K.p.length ≤ 1000000000000000) (c : Int) {t : Int} {r : Bool} (HQ : Hid (K.pick c = (t, r, K'))) : Calls Try.prog 15 #[.pointer (some ⟨b, 0, none⟩), .int .i64 c] w fun e w' => e = .returned (.tuple #[.int .i64 t, .bool r]) ∧ Lm w' b g K' ∧ Chg w w' (ftL b g) := by
  have HD0 := keepG h
  obtain ⟨l, HL⟩ : ∃ l, Hid (K.inM 1 = l) := ⟨_, rfl⟩
  have hll : l.length ≤ 64 := by rw [← HL.out]; have := K.inM_len 1; have := hk.len.2; omega
  have hq := Kn.pick_parts HQ.out
  have hin : t ∈ K.inM 1 → K.has t = true := fun e => (Kn.mem_inM.1 e).1
  rw [HL.out] at hq hin
  clear h HQ
  rcases hq with ⟨q1, q2, q3, q4⟩ | ⟨q1, q2, q3, q4, q5⟩
  · subst q1 q2 q3 q4
    go_enter Try.func15, Try.ntmps15
    go_wp2_with (go_at_call 20; go_must (refine (lmready HD0.out hk HL).mono ?_); rintro e w2 ⟨u, rfl, hu, hb2⟩; go_must (obtain ⟨ua, uc, ev⟩ := own_shape hu; subst ev; have HB2 := keepG hb2; clear hu hb2))
    go_ret2
    exact ⟨rfl, HD0.out.below HB2.out, Chg.of_below HB2.out⟩
  · have hn : 0 < l.length := List.length_pos_iff.2 q1
    have hnb : ((l.length : Int) == 0) = false := by simp; omega
    have hn0 : ¬ (l.length : Int) = 0 := by omega
    obtain ⟨p1, p2, p3, p4⟩ := mod_parts (c := c) hn
    have HT := keepG q4
    obtain ⟨k, hkt, hkm⟩ := Kn.has_nat (hin q3)
    subst q2 q5
    subst hkt
    clear q1 q3 q4 hin
    go_enter Try.func15, Try.ntmps15
    by_cases hneg : c.tmod l.length < 0
    · have e1 := p2 hneg
      obtain ⟨A, hA1, hA2⟩ : ∃ A : Nat, (A : Int) = c.tmod l.length + l.length ∧ A < l.length := ⟨(c.tmod l.length + l.length).toNat, by omega, by omega⟩
      have hAI : (A : Int) < l.length := by omega
      have hw1 : IntKind.i64.wrap (c.tmod l.length + l.length) = (A : Int) := by rw [IntKind.wrap_i64, hA1]; omega
      have HT2 : Hid (l.getD A 0 = (k : Int)) := by
        show _ = _
        rw [HT.out, e1, ← hA1]
        rfl
      clear p1 p2 p3 p4 e1 hA1 HT
      go_wp2_with (first
        | (go_at_call 20; go_must (refine (lmready HD0.out hk HL).mono ?_); rintro e w2 ⟨u, rfl, hu, hb2⟩; go_must (obtain ⟨pl, lc, ev, hpl, hpl2, hlc, hlm, hat, -⟩ := hu.cells hn; subst ev; have ml := (hat A hA2).1; rw [HT2.out] at ml; have HB2 := keepG hb2; have HD2 := keepG (HD0.out.below hb2); clear hu hb2 hat))
        | (go_at_call 25; go_must (refine (lmtake HD2.out hkm hk.len.2 hl).mono ?_); rintro e w3 ⟨rfl, h3, hc3⟩; go_must (have HD3 := keepG h3; have HC3 := keepG hc3; clear h3 hc3)))
      go_ret2
      exact ⟨rfl, HD3.out, (Chg.of_below HB2.out).trans HC3.out (fun _ _ e => e)⟩
    · have e1 := p1 (by omega)
      obtain ⟨A, hA1, hA2⟩ : ∃ A : Nat, (A : Int) = c.tmod l.length ∧ A < l.length := ⟨(c.tmod l.length).toNat, by omega, by omega⟩
      have hAI : (A : Int) < l.length := by omega
      have HT2 : Hid (l.getD A 0 = (k : Int)) := by
        show _ = _
        rw [HT.out, e1, ← hA1]
        rfl
      have hA1' : c.tmod l.length = (A : Int) := hA1.symm
      have hneg' : ¬ (A : Int) < 0 := by omega
      clear p1 p2 p3 p4 e1 hA1 HT hneg
      go_wp2_with (first
        | (go_at_call 20; go_must (refine (lmready HD0.out hk HL).mono ?_); rintro e w2 ⟨u, rfl, hu, hb2⟩; go_must (obtain ⟨pl, lc, ev, hpl, hpl2, hlc, hlm, hat, -⟩ := hu.cells hn; subst ev; have ml := (hat A hA2).1; rw [HT2.out] at ml; have HB2 := keepG hb2; have HD2 := keepG (HD0.out.below hb2); clear hu hb2 hat))
        | (go_at_call 25; go_must (refine (lmtake HD2.out hkm hk.len.2 hl).mono ?_); rintro e w3 ⟨rfl, h3, hc3⟩; go_must (have HD3 := keepG h3; have HC3 := keepG hc3; clear h3 hc3)))
      go_ret2
      exact ⟨rfl, HD3.out, (Chg.of_below HB2.out).trans HC3.out (fun _ _ e => e)⟩
/-- The next one behind so many of them, the first at first. -/
def bestN (f : Int → Nat) (l : List Int) : Nat → Int
  | 0 => l.getD 0 0
  | j + 1 => if f (l.getD j 0) < f (bestN f l j) then l.getD j 0 else bestN f l j
theorem bestN_fold (f : Int → Nat) (x : Int) (r : List Int) : ∀ i, i ≤ r.length → (bestN f (x :: r) (i + 1), f (bestN f (x :: r) (i + 1))) = (r.take i).foldl (bestF f) (x, f x)
  | 0, _ => by simp [bestN]
  | i + 1, h => by
    have ih := bestN_fold f x r i (by omega)
    have ht : r.take (i + 1) = r.take i ++ [r.getD i 0] := take_at r i (by omega)
    rw [ht, List.foldl_append, ← ih]
    show ((if f ((x :: r).getD (i + 1) 0) < f (bestN f (x :: r) (i + 1)) then (x :: r).getD (i + 1) 0 else bestN f (x :: r) (i + 1)), f (if f ((x :: r).getD (i + 1) 0) < f (bestN f (x :: r) (i + 1)) then (x :: r).getD (i + 1) 0 else bestN f (x :: r) (i + 1))) = bestF f (bestN f (x :: r) (i + 1), f (bestN f (x :: r) (i + 1))) (r.getD i 0)
    have e : (x :: r).getD (i + 1) 0 = r.getD i 0 := by simp [List.getD]
    rw [e]
    unfold bestF
    by_cases hb : f (r.getD i 0) < f (bestN f (x :: r) (i + 1))
    · rw [if_pos hb, if_pos hb]
    · rw [if_neg hb, if_neg hb]
theorem bestN_all (f : Int → Nat) {l : List Int} (h : l ≠ []) : best f l = bestN f l l.length := by
  cases l with
  | nil => exact absurd rfl h
  | cons x r =>
    have := bestN_fold f x r r.length (Nat.le_refl _)
    rw [List.take_length] at this
    show (r.foldl (bestF f) (x, f x)).1 = bestN f (x :: r) (r.length + 1)
    rw [← this]
theorem bestN_mem (f : Int → Nat) {l : List Int} (h : 0 < l.length) : ∀ j, j ≤ l.length → bestN f l j ∈ l
  | 0, _ => getD_memK l 0 h
  | j + 1, hj => by
    show (if f (l.getD j 0) < f (bestN f l j) then l.getD j 0 else bestN f l j) ∈ l
    split
    · exact getD_memK l j (by omega)
    · exact bestN_mem f h j (by omega)
set_option maxHeartbeats 6400000 in
theorem lmfair (h : Lm w b g K) (hk : K.Ok) (hl : K.p.length ≤ 1000000000000000) {t : Int} {r : Bool} (HQ : Hid (K.fair = (t, r, K'))) : Calls Try.prog 17 #[.pointer (some ⟨b, 0, none⟩)] w fun e w' => e = .returned (.tuple #[.int .i64 t, .bool r]) ∧ Lm w' b g K' ∧ Chg w w' (ftL b g) := by
  have HD0 := keepG h
  obtain ⟨l, HL⟩ : ∃ l, Hid (K.inM 1 = l) := ⟨_, rfl⟩
  have hll : l.length ≤ 64 := by rw [← HL.out]; have := K.inM_len 1; have := hk.len.2; omega
  have hq := Kn.fair_parts HQ.out
  have hin : ∀ x, x ∈ K.inM 1 → K.has x = true := fun x e => (Kn.mem_inM.1 e).1
  rw [HL.out] at hq hin
  have HIN := keepG hin
  clear h HQ hin
  rcases hq with ⟨q1, q2, q3, q4⟩ | ⟨q1, q2, q3, q4, q5⟩
  · subst q1 q2 q3 q4
    go_enter Try.func17, Try.ntmps17
    go_wp2_with (go_at_call 20; go_must (refine (lmready HD0.out hk HL).mono ?_); rintro e w2 ⟨u, rfl, hu, hb2⟩; go_must (obtain ⟨ua, uc, ev⟩ := own_shape hu; subst ev; have HB2 := keepG hb2; clear hu hb2))
    go_ret2
    exact ⟨rfl, HD0.out.below HB2.out, Chg.of_below HB2.out⟩
  · have hn : 0 < l.length := List.length_pos_iff.2 q1
    have hnb : ((l.length : Int) == 0) = false := by simp; omega
    have hn0 : ¬ (l.length : Int) = 0 := by omega
    have hnI : (0 : Int) < l.length := by omega
    have HT : Hid (bestN (lastP K.p) l l.length = t) := by show _ = _; rw [q4, bestN_all _ q1]
    have HMB := keepG (bestN_mem (lastP K.p) hn)
    subst q2 q5
    clear q1 q3 q4
    obtain ⟨x0, HX0⟩ : ∃ x0, Hid (l.getD 0 0 = x0) := ⟨_, rfl⟩
    go_enter Try.func17, Try.ntmps17
    go_wp2_with (go_at_call 20; go_must (refine (lmready HD0.out hk HL).mono ?_); rintro e w2 ⟨u, rfl, hu, hb2⟩; go_must (have HU := keepG hu; obtain ⟨pl, lc, ev, hpl, hpl2, hlc, hlm, hat, -⟩ := hu.cells hn; subst ev; have ml0 := (hat 0 hn).1; rw [HX0.out] at ml0; have HB2 := keepG hb2; have HD2 := keepG (HD0.out.below hb2); clear hu hb2 hat))
    have HLC : Hid (∀ wx, Below w2.heap.size w2 wx → ∀ k, k < l.length → wx.cell? ⟨pl, k, none⟩ = some (.int .i64 (l.getD k 0))) := by
      intro wx hb k hk
      obtain ⟨p', c', ev, _, h2⟩ := (HU.out.below hb).atK hk
      simp only [Value.slice.injEq, Option.some.injEq, Addr.mk.injEq, and_true, true_and] at ev
      obtain ⟨rfl, rfl⟩ := ev
      exact h2 k hk
    go_loopw [5, 18] (fun be i wr => ∃ j : Nat, j ≤ l.length ∧ i = .int .i64 j ∧ be = .int .i64 (bestN (lastP K.p) l j) ∧ Hid (Below w2.heap.size w2 wr)) (fun _ i _ => l.length - (intOf i).toNat)
    case atStart => exact ⟨0, by omega, rfl, by rw [← HX0.out]; rfl, Below.refl _ _⟩
    case round =>
      obtain ⟨j, hj, rfl, rfl, HB⟩ := hrel
      rename World => wr
      have hmb := HIN.out _ (HMB.out j hj)
      obtain ⟨n, hbn, hnm⟩ := Kn.has_nat hmb
      have HBN := keepG hbn
      rw [hbn]
      clear hmb hbn
      have HDr := keepG (HD2.out.below HB.out)
      by_cases hlt : j < l.length
      · have hltI : (j : Int) < l.length := by omega
        have lx := HLC.out wr HB.out j hlt
        have hST : bestN (lastP K.p) l (j + 1) = if lastP K.p (l.getD j 0) < lastP K.p (bestN (lastP K.p) l j) then l.getD j 0 else bestN (lastP K.p) l j := rfl
        obtain ⟨k, hxk, hkm⟩ := Kn.has_nat (HIN.out _ (getD_memK l j hlt))
        rw [hxk] at lx hST
        rw [HBN.out] at hST
        have HST := keepG hST
        obtain ⟨c0, c1⟩ := HDr.out.low
        have ck := (HDr.out.at hkm).2
        have cn := (HDr.out.at hnm).2
        have hkI : (k : Int) < K.m.length := by omega
        have hnmI : (n : Int) < K.m.length := by omega
        have HBd := keepG (below_drG HB.out)
        clear hST hxk
        go_wp2
        refine wp_region_held_drew (S := fun w' => w'.cell? ⟨b, 1, none⟩ = some (.slice (some ⟨g, 0, none⟩) K.m.length K.m.length) ∧ w'.cell? ⟨g, k * 2 + 1, none⟩ = some (.int .i64 (lastP K.p k)) ∧ w'.cell? ⟨g, n * 2 + 1, none⟩ = some (.int .i64 (lastP K.p n))) (by kernel_rfl) ⟨c1, ck, cn⟩ (fun hHeld => ?_)
        refine tkGo [0, 1, 2, 3, 4, 5, 6, 7, 8, 9, 10, 11, 12, 13, 14, 15, 16] ?_
        repeat (refine tkOne (v := ?_) rfl (by kernel_rfl) (by kernel_rfl) (by kernel_rfl) (fun _ _ _ h => h) (by assumption) (by rfl) ?_ ?_; rotate_left; (intro wy hSw; (try dsimp only at hSw); go_simp; (first | done | with_reducible rfl)); try simp only [Act.put, List.getElem_toArray, List.getElem_cons_zero, List.getElem_cons_succ, List.setIfInBounds_toArray, List.set_cons_zero, List.set_cons_succ])
        refine tkEnd ?_
        refine wpAnyH_done (by kernel_rfl) ?_ _
        clear hHeld
        by_cases hc : lastP K.p k < lastP K.p n
        · have hcI : (lastP K.p k : Int) < lastP K.p n := by omega
          have HS2 : Hid (bestN (lastP K.p) l (j + 1) = (k : Int)) := by show _ = _; rw [HST.out, if_pos hc]
          clear HST hc
          go_wp2
          go_roundw
          case rel => exact ⟨j + 1, by omega, by go_num, by rw [HS2.out], HBd.out⟩
          case measure => simp [intOf]; omega
        · have hcI : ¬ (lastP K.p k : Int) < lastP K.p n := by omega
          have HS2 : Hid (bestN (lastP K.p) l (j + 1) = (n : Int)) := by show _ = _; rw [HST.out, if_neg hc]
          clear HST hc
          go_wp2
          go_roundw
          case rel => exact ⟨j + 1, by omega, by go_num, by rw [HS2.out], HBd.out⟩
          case measure => simp [intOf]; omega
      · have hltI : ¬ (j : Int) < l.length := by omega
        have ht : t = (n : Int) := by rw [← HT.out, ← HBN.out, show j = l.length by omega]
        subst ht
        clear HT HBN
        go_wp2_with (go_at_call 25; go_must (refine (lmtake HDr.out hnm hk.len.2 hl).mono ?_); rintro e w3 ⟨rfl, h3, hc3⟩; go_must (have HD3 := keepG h3; have HC3 := keepG hc3; clear h3 hc3))
        go_ret2
        exact ⟨rfl, HD3.out, (Chg.of_below (HB2.out.trans (HB.out.mono HB2.out.size))).trans HC3.out (fun _ _ e => e)⟩
end
/-- The landed kern at a block, its footprint F. -/
def Lk (w : World) (B b : Nat) (F : Ft) (K : Kn) : Prop := ∃ g, F = ftL b g ∧ Lm w b g K
section
variable {w w' : World} {B b : Nat} {F G : Ft} {K K' : Kn}
theorem Lk.lies (h : Lk w B b F K) : Lies w F := by
  obtain ⟨g, rfl, h⟩ := h
  exact h.lies
theorem Lk.keeps (h : Lk w B b F K) (hc : Chg w w' G) (ha : Apt G F) : Lk w' B b F K := by
  obtain ⟨g, rfl, h⟩ := h
  exact ⟨g, rfl, h.chg hc ha⟩
theorem lknew_ok (n : Nat) (h1 : 1 ≤ n) (h : n ≤ 64) (w : World) : Calls Try.prog 8 #[.int .i64 n] w fun e w' => ∃ b F, e = .returned (.tuple #[.pointer (some ⟨b, 0, none⟩), .int .i64 0]) ∧ Lk w' w.heap.size b F (Kn.new n) ∧ Since w F ∧ Below w.heap.size w w' := by
  refine (lmnew_ok n h1 h w).mono ?_
  rintro e w1 ⟨rfl, g1, g2, g3⟩
  exact ⟨_, _, rfl, ⟨_, rfl, g1⟩, g2, g3⟩
theorem lknew_no (n : Int) (h : n < 1 ∨ 64 < n) (w : World) : Calls Try.prog 8 #[.int .i64 n] w fun e w' => e = .returned (.tuple #[.pointer none, .int .i64 2]) ∧ w = w' := lmnew_no n h w
theorem Lk.wake (h : Lk w B b F K) (hk : K.Ok) (hB : B ≤ w.heap.size) {u : Value} {xs : List Int} (hz : Hid (xs.length * 8 ≤ 140737488355328)) (hs : Sees .i64 w u xs) (hap : xs ≠ [] → Apt F (ftV u)) {E : Int} (HQ : Hid (K.turn 1 xs = (E, K'))) : Calls Try.prog 9 #[.pointer (some ⟨b, 0, none⟩), u] w fun e w' => e = .returned (.int .i64 E) ∧ ∃ F', Lk w' B b F' K' ∧ Nx w w' F F' := by
  obtain ⟨g, rfl, h⟩ := h
  go_enter Try.func9, Try.ntmps9
  go_wp2_with (go_at_call 24; go_must (refine (lmturn h 1 hs (fun hne j hj e => hap hne j e hj) HQ).mono ?_); rintro e w1 ⟨rfl, g1, g2⟩; go_must (have G1 := keepG g1; have G2 := keepG g2; clear g1 g2))
  go_ret
  exact ⟨rfl, _, ⟨_, rfl, G1.out⟩, ⟨G2.out, fun _ e => .inl e⟩⟩
theorem Lk.sleep (h : Lk w B b F K) (hk : K.Ok) (hB : B ≤ w.heap.size) {u : Value} {xs : List Int} (hz : Hid (xs.length * 8 ≤ 140737488355328)) (hs : Sees .i64 w u xs) (hap : xs ≠ [] → Apt F (ftV u)) {E : Int} (HQ : Hid (K.turn 0 xs = (E, K'))) : Calls Try.prog 11 #[.pointer (some ⟨b, 0, none⟩), u] w fun e w' => e = .returned (.int .i64 E) ∧ ∃ F', Lk w' B b F' K' ∧ Nx w w' F F' := by
  obtain ⟨g, rfl, h⟩ := h
  go_enter Try.func11, Try.ntmps11
  go_wp2_with (go_at_call 24; go_must (refine (lmturn h 0 hs (fun hne j hj e => hap hne j e hj) HQ).mono ?_); rintro e w1 ⟨rfl, g1, g2⟩; go_must (have G1 := keepG g1; have G2 := keepG g2; clear g1 g2))
  go_ret
  exact ⟨rfl, _, ⟨_, rfl, G1.out⟩, ⟨G2.out, fun _ e => .inl e⟩⟩
theorem Lk.done (h : Lk w B b F K) (hk : K.Ok) (hB : B ≤ w.heap.size) {u : Value} {xs : List Int} (hz : Hid (xs.length * 8 ≤ 140737488355328)) (hs : Sees .i64 w u xs) (hap : xs ≠ [] → Apt F (ftV u)) {E : Int} (HQ : Hid (K.turn 2 xs = (E, K'))) : Calls Try.prog 12 #[.pointer (some ⟨b, 0, none⟩), u] w fun e w' => e = .returned (.int .i64 E) ∧ ∃ F', Lk w' B b F' K' ∧ Nx w w' F F' := by
  obtain ⟨g, rfl, h⟩ := h
  go_enter Try.func12, Try.ntmps12
  go_wp2_with (go_at_call 24; go_must (refine (lmturn h 2 hs (fun hne j hj e => hap hne j e hj) HQ).mono ?_); rintro e w1 ⟨rfl, g1, g2⟩; go_must (have G1 := keepG g1; have G2 := keepG g2; clear g1 g2))
  go_ret
  exact ⟨rfl, _, ⟨_, rfl, G1.out⟩, ⟨G2.out, fun _ e => .inl e⟩⟩
theorem Lk.set (h : Lk w B b F K) (hk : K.Ok) (hB : B ≤ w.heap.size) {u : Value} {rs : List Bool} (hz : Hid (rs.length ≤ 140737488355328)) (hs : SeesG bK 1 false w u rs) (hap : rs ≠ [] → Apt F (ftV u)) {E : Int} (HQ : Hid (K.set rs = (E, K'))) : Calls Try.prog 13 #[.pointer (some ⟨b, 0, none⟩), u] w fun e w' => e = .returned (.int .i64 E) ∧ ∃ F', Lk w' B b F' K' ∧ Nx w w' F F' := by
  obtain ⟨g, rfl, h⟩ := h
  refine (lmset h hk hs (fun hne j hj e => hap hne j e hj) HQ).mono ?_
  rintro e w1 ⟨rfl, g1, g2⟩
  exact ⟨rfl, _, ⟨_, rfl, g1⟩, ⟨g2, fun _ e => .inl e⟩⟩
theorem Lk.pick (h : Lk w B b F K) (hk : K.Ok) (hB : B ≤ w.heap.size) (hla : K.p.length ≤ 1000000000000000) (c : Int) {t : Int} {r : Bool} (HQ : Hid (K.pick c = (t, r, K'))) : Calls Try.prog 15 #[.pointer (some ⟨b, 0, none⟩), .int .i64 c] w fun e w' => e = .returned (.tuple #[.int .i64 t, .bool r]) ∧ ∃ F', Lk w' B b F' K' ∧ Nx w w' F F' := by
  obtain ⟨g, rfl, h⟩ := h
  refine (lmpick h hk hla c HQ).mono ?_
  rintro e w1 ⟨rfl, g1, g2⟩
  exact ⟨rfl, _, ⟨_, rfl, g1⟩, ⟨g2, fun _ e => .inl e⟩⟩
theorem Lk.fair (h : Lk w B b F K) (hk : K.Ok) (hB : B ≤ w.heap.size) (hla : K.p.length ≤ 1000000000000000) {t : Int} {r : Bool} (HQ : Hid (K.fair = (t, r, K'))) : Calls Try.prog 17 #[.pointer (some ⟨b, 0, none⟩)] w fun e w' => e = .returned (.tuple #[.int .i64 t, .bool r]) ∧ ∃ F', Lk w' B b F' K' ∧ Nx w w' F F' := by
  obtain ⟨g, rfl, h⟩ := h
  refine (lmfair h hk hla HQ).mono ?_
  rintro e w1 ⟨rfl, g1, g2⟩
  exact ⟨rfl, _, ⟨_, rfl, g1⟩, ⟨g2, fun _ e => .inl e⟩⟩
theorem Lk.turns (h : Lk w B b F K) : Calls Try.prog 23 #[.pointer (some ⟨b, 0, none⟩)] w fun e w' => e = .returned (.int .i64 K.p.length) ∧ w = w' := by
  obtain ⟨g, rfl, h⟩ := h
  obtain ⟨c0, c1⟩ := h.low
  go_enter Try.func23, Try.ntmps23
  go_wp2
  go_ret
  exact ⟨rfl, rfl⟩
theorem Lk.ready (h : Lk w B b F K) (hk : K.Ok) {A : List Int} (HA : Hid (K.inM 1 = A)) : Calls Try.prog 20 #[.pointer (some ⟨b, 0, none⟩)] w fun e w' => ∃ v, e = .returned v ∧ RoN w' w.heap.size v A ∧ Below w.heap.size w w' := by
  obtain ⟨g, rfl, h⟩ := h
  exact lmready h hk HA
theorem Lk.ended (h : Lk w B b F K) (hk : K.Ok) {A : List Int} (HA : Hid (K.inM 2 = A)) : Calls Try.prog 22 #[.pointer (some ⟨b, 0, none⟩)] w fun e w' => ∃ v, e = .returned v ∧ RoN w' w.heap.size v A ∧ Below w.heap.size w w' := by
  obtain ⟨g, rfl, h⟩ := h
  exact lmended h hk HA
end
end Go.Proofs.Ytnjmajcjdkceoaa
