
/-
  Two refs, apart; lists of numbers held against one another. No condition.
-/
import Derived.Test.YtonbaklbbmmljaaTk
import Derived.Test.YtonbaklbbmmljaaW18Aw
namespace Go.Proofs.Ytonbaklbbmmljaa
open Go.RowKit
set_option linter.unusedVariables false
set_option linter.unusedSimpArgs false
set_option maxRecDepth 100000
theorem infoIntM : (Try.prog.info? 3).map (fun i => (i.zero, i.size, i.bytes)) = some (some (.int .i64 0), 1, 8) := by kernel_rfl
/-- Two refs, apart. -/
structure L2z (w0 w : World) (a b : Nat) (F G : Ft) (n : Nat) (P Q : Rs) (m : Nat) : Prop where
  la : Lz w0 w a F n P m
  lb : Lz w0 w b G n Q m
  ap : Apt F G
section
variable {w0 w w' : World} {a b n m : Nat} {F F' G : Ft} {P P' Q : Rs}
theorem L2z.swap (h : L2z w0 w a b F G n P Q m) : L2z w0 w b a G F n Q P m := ⟨h.lb, h.la, h.ap.symm⟩
theorem L2z.below (h : L2z w0 w a b F G n P Q m) (hb : Below w.heap.size w w') : L2z w0 w' a b F G n P Q m := ⟨h.la.below hb, h.lb.below hb, h.ap⟩
theorem L2z.drewN (h : L2z w0 w a b F G n P Q m) (k : Nat) : L2z w0 (w.drewN k) a b F G n P Q m := ⟨h.la.drewN k, h.lb.drewN k, h.ap⟩
theorem L2z.mono (h : L2z w0 w a b F G n P Q m) {m' : Nat} (hm : m ≤ m') : L2z w0 w a b F G n P Q m' := ⟨h.la.mono hm, h.lb.mono hm, h.ap⟩
theorem L2z.stepA {m' : Nat} (h : L2z w0 w a b F G n P Q m) (hl : Lz w0 w' a F' n P' m') (hn : Nx w w' F F') (hm : m ≤ m') : L2z w0 w' a b F' G n P' Q m' :=
  ⟨hl, (h.lb.keeps hn.chg h.ap h.la.since).mono hm, h.ap.next h.lb.lies hn⟩
end
/-- A slice that reads as these numbers, whatever they are. -/
def Rdn (w : World) (v : Value) (A : List Int) : Prop := ∃ a cap, v = .slice a A.length cap ∧ (A.length ≤ cap ∧ cap ≤ maxLen) ∧ (A ≠ [] → ∃ b off, a = some ⟨b, off, none⟩ ∧ b < w.heap.size ∧ ∀ i, i < A.length → w.cell? ⟨b, off + i, none⟩ = some (.int .i64 (A.getD i 0)))
theorem Sees.rdn {w : World} {v : Value} {A : List Int} (h : Sees .i64 w v A) : Rdn w v A := by
  obtain ⟨a, cap, rfl, h1, h2, h3, h4, h5⟩ := h
  exact ⟨a, cap, rfl, ⟨h1, h2⟩, h5⟩
theorem RoI.rdn {w : World} {B : Nat} {v : Value} {A : List Int} (h : RoI w B v A) : Rdn w v A := by
  by_cases hn : 0 < A.length
  · obtain ⟨p, cap, rfl, _, hl, hlc, hm, hc, _⟩ := h.cells hn
    refine ⟨_, cap, rfl, ⟨hlc, by unfold maxLen; omega⟩, fun _ => ⟨p, 0, rfl, hl, fun i hi => ?_⟩⟩
    rw [Nat.zero_add]
    exact (hc i hi).1
  · have : A = [] := List.eq_nil_of_length_eq_zero (by omega)
    subst this
    rcases h with ⟨_, ⟨rfl, _⟩ | ⟨g, cap, cur, rfl, _, _, hlc, hm, _⟩⟩
    · exact ⟨none, 0, rfl, ⟨by simp, by simp [maxLen]⟩, fun e => absurd rfl e⟩
    · exact ⟨_, cap, rfl, ⟨hlc, hm⟩, fun e => absurd rfl e⟩
theorem Rdn.below {w w' : World} {v : Value} {A : List Int} (h : Rdn w v A) (hb : Below w.heap.size w w') : Rdn w' v A := by
  obtain ⟨a, cap, rfl, h1, h2⟩ := h
  refine ⟨a, cap, rfl, h1, fun hne => ?_⟩
  obtain ⟨b, off, rfl, hl, hc⟩ := h2 hne
  exact ⟨b, off, rfl, Nat.lt_of_lt_of_le hl hb.size, fun i hi => (hb.cell (p := ⟨b, off + i, none⟩) hl).trans (hc i hi)⟩
theorem Rdn.atE {w : World} {a : Option Addr} {n cap : Nat} {xs : List Int} (h : Rdn w (.slice a n cap) xs) {j : Nat} (hj : j < xs.length) : ∃ p off, a = some ⟨p, off, none⟩ ∧ ∀ i, i < xs.length → w.cell? ⟨p, off + i, none⟩ = some (.int .i64 (xs.getD i 0)) := by
  obtain ⟨a', cap', ev, _, hc⟩ := h
  simp only [Value.slice.injEq] at ev
  obtain ⟨rfl, _, rfl⟩ := ev
  obtain ⟨p, off, rfl, _, hat⟩ := hc (fun e => by rw [e] at hj; simp at hj)
  exact ⟨p, off, rfl, hat⟩
/-- Equal lists are alike. -/
theorem wints18 {w : World} {va vb : Value} {A : List Int} (ha : Rdn w va A) (hb : Rdn w vb A) : Calls Try.prog 12 #[va, vb] w fun e w' => e = .returned (.bool true) ∧ Below w.heap.size w w' := by
  have HA := keepG (fun (wr : World) (hc : Below w.heap.size w wr) => ha.below hc)
  have HB := keepG (fun (wr : World) (hc : Below w.heap.size w wr) => hb.below hc)
  obtain ⟨a1, c1, rfl, ⟨hc1, hm1⟩, _⟩ := ha
  obtain ⟨a2, c2, rfl, ⟨hc2, hm2⟩, _⟩ := hb
  unfold maxLen at hm1 hm2
  have hAl : A.length ≤ 9223372036854775807 := by omega
  go_enter Try.func12, Try.ntmps12
  go_wp2
  go_loopw [5] (fun i wr => ∃ j : Nat, j ≤ A.length ∧ i = .int .i64 j ∧ Hid (Below w.heap.size w wr)) (fun i _ => A.length - (intOf i).toNat)
  case atStart => exact ⟨0, by omega, rfl, Below.refl _ _⟩
  case round =>
    obtain ⟨j, hj, rfl, HBW⟩ := hrel
    rename World => wr
    by_cases hlt : j < A.length
    · have hltI : (j : Int) < A.length := by omega
      obtain ⟨p1, o1, ev1, hat1⟩ := (HA.out wr HBW.out).atE hlt
      obtain ⟨p2, o2, ev2, hat2⟩ := (HB.out wr HBW.out).atE hlt
      subst ev1 ev2
      have d1 := hat1 j hlt
      have d2 := hat2 j hlt
      obtain ⟨x, HX⟩ : ∃ x, Hid (A.getD j 0 = x) := ⟨_, rfl⟩
      rw [HX.out] at d1 d2
      clear hat1 hat2
      have HBd := keepG (below_drG HBW.out)
      go_wp2
      refine wp_region_held_drew (S := fun w' => w'.cell? ⟨p1, o1 + j, none⟩ = some (.int .i64 x) ∧ w'.cell? ⟨p2, o2 + j, none⟩ = some (.int .i64 x)) (by kernel_rfl) ⟨d1, d2⟩ (fun hHeld => ?_)
      refine tkGo [0, 1, 2, 3, 4, 5, 6, 7, 8] ?_
      repeat (refine tkOne (v := ?_) rfl (by kernel_rfl) (by kernel_rfl) (by kernel_rfl) (fun _ _ _ h => h) (by assumption) (by rfl) ?_ ?_; rotate_left; (intro wy hSw; (try dsimp only at hSw); go_simp; (first | done | with_reducible rfl)); try simp only [Act.put, List.getElem_toArray, List.getElem_cons_zero, List.getElem_cons_succ, List.setIfInBounds_toArray, List.set_cons_zero, List.set_cons_succ])
      refine tkEnd ?_
      refine wpAnyH_done (by kernel_rfl) ?_ _
      clear hHeld
      go_wp2
      go_roundw
      case rel => exact ⟨j + 1, by omega, by go_num, HBd.out⟩
      case measure => simp [intOf]; omega
    · have hltI : ¬ (j : Int) < A.length := by omega
      go_wp2
      go_ret
      exact ⟨rfl, HBW.out⟩
theorem own_emptyM (w : World) (t : TypeId) (z : Nat) : (w.alloc (.cells #[] t)).ownsRow w.heap.size t z (.slice (some ⟨w.heap.size, 0, none⟩) 0 0) 0 [] := by
  refine ⟨by simp, .inr ⟨w.heap.size, 0, #[], rfl, Nat.le_refl _, heap_alloc_new w _, Nat.le_refl _, by simp [maxLen], by simp, by simp⟩⟩
/-- Whether all may be dropped. -/
def mayB (P : Rs) (ps : List Int) : Bool := ps.all (Rs.has P) && decide ps.Nodup
theorem may_take {P : Rs} {ps : List Int} {k : Nat} (hk : k < ps.length) : mayB P (ps.take (k + 1)) = (mayB P (ps.take k) && P.has (ps.getD k 0) && !decide (ps.getD k 0 ∈ ps.take k)) := by
  unfold mayB
  have h1 := nodup_take ps hk
  rw [take_at ps k hk] at h1 ⊢
  rw [List.all_append, Bool.eq_iff_iff]
  simp only [Bool.and_eq_true, decide_eq_true_eq, Bool.not_eq_true', decide_eq_false_iff_not, List.all_cons, List.all_nil, Bool.and_true]
  rw [h1]
  constructor
  · rintro ⟨⟨a, b⟩, c, d⟩; exact ⟨⟨⟨a, c⟩, b⟩, d⟩
  · rintro ⟨⟨⟨a, c⟩, b⟩, d⟩; exact ⟨⟨a, b⟩, c, d⟩
theorem drop_may {P P' : Rs} {ps : List Int} {E : Int} (h : Rs.drop P ps = (E, P')) : (E == 0) = mayB P ps ∧ (mayB P ps = true → P' = P.filter (outP ps)) ∧ (mayB P ps = false → P' = P) := by
  unfold Rs.drop at h
  unfold mayB
  split at h
  · rename_i hn
    injection h with e1 e2
    rw [hn, ← e1, ← e2, Bool.and_false]
    exact ⟨rfl, (fun e => by cases e), fun _ => rfl⟩
  · rename_i hn
    have hn' : decide ps.Nodup = true := by simpa using hn
    rw [hn', Bool.and_true]
    split at h
    · rename_i ha
      injection h with e1 e2
      rw [ha, ← e1, ← e2]
      exact ⟨rfl, (fun e => by cases e), fun _ => rfl⟩
    · rename_i ha
      have ha' : ps.all (Rs.has P) = true := by simpa using ha
      injection h with e1 e2
      rw [ha', ← e1, ← e2]
      exact ⟨rfl, fun _ => rfl, (fun e => by cases e)⟩
/-- One by one. -/
theorem drop_each {P : Rs} {ps : List Int} (hm : mayB P ps = true) {k : Nat} (hk : k < ps.length) : Rs.drop (P.filter (outP (ps.take k))) [ps.getD k 0] = (0, P.filter (outP (ps.take (k + 1)))) := by
  unfold mayB at hm
  rw [Bool.and_eq_true, decide_eq_true_eq] at hm
  have hnt := (nodup_take ps hk).1 (hm.2.sublist (List.take_sublist _ _))
  have hh : Rs.has (P.filter (outP (ps.take k))) (ps.getD k 0) = true := by
    obtain ⟨y, hy, e⟩ := Rs.has_iff.1 (List.all_eq_true.1 hm.1 _ (getD_mem ps k hk))
    exact Rs.has_iff.2 ⟨y, List.mem_filter.2 ⟨hy, by unfold outP; rw [e, decide_eq_false hnt.2]; rfl⟩, e⟩
  unfold Rs.drop
  rw [if_neg (by simp), if_neg (by rw [List.all_cons, hh]; simp), take_at ps k hk, ← filter_out]
  congr 1
  refine congrArg (fun f => List.filter f _) ?_
  funext h
  unfold outP
  simp
/-- Who holds a map, holds. -/
theorem holders_at {n : Nat} {P : Rs} (hk : Rs.Ok n P) {x p : Int} (h : p ∈ P.holders x) : ∃ ms, heldL P p = (ms, true) ∧ x ∈ ms := by
  unfold Rs.holders at h
  obtain ⟨y, hy, rfl⟩ := List.mem_map.1 h
  obtain ⟨h1, h2⟩ := List.mem_filter.1 hy
  refine ⟨y.ms, ?_, of_decide_eq_true h2⟩
  unfold heldL
  rw [hk.held_some h1]
theorem held_has {P : Rs} {p : Int} {A : List Int} {r : Bool} (h : heldL P p = (A, r)) : r = P.has p := by
  unfold heldL at h
  cases hh : P.has p with
  | false => rw [Rs.held_none hh] at h; injection h with _ e; exact e.symm
  | true =>
    cases hq : P.held p with
    | none =>
      obtain ⟨x, hx, e⟩ := Rs.has_iff.1 hh
      unfold Rs.held at hq
      rw [Option.map_eq_none_iff, List.find?_eq_none] at hq
      exact absurd e (by simpa using hq x hx)
    | some ms => rw [hq] at h; injection h with _ e; exact e.symm
end Go.Proofs.Ytonbaklbbmmljaa
