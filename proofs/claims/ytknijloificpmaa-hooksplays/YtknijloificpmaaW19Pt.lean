
/-
  The landed table of layer 19 and the document's, apart, with a call's box and a row of numbers. No condition.
-/
import Derived.Test.YtknijloificpmaaW19Aw
namespace Go.Proofs.Ytknijloificpmaa
open Go.RowKit
set_option linter.unusedVariables false
set_option linter.unusedSimpArgs false
set_option maxRecDepth 100000
/-- A slice that reads as these numbers, whatever they are. -/
def Rdn (w : World) (v : Value) (A : List Int) : Prop := ∃ a cap, v = .slice a A.length cap ∧ (A.length ≤ cap ∧ cap ≤ maxLen) ∧ (A ≠ [] → ∃ b off, a = some ⟨b, off, none⟩ ∧ b < w.heap.size ∧ ∀ i, i < A.length → w.cell? ⟨b, off + i, none⟩ = some (.int .i64 (A.getD i 0)))
theorem Sees.rdn {w : World} {v : Value} {A : List Int} (h : Sees .i64 w v A) : Rdn w v A := by
  obtain ⟨a, cap, rfl, h1, h2, h3, h4, h5⟩ := h
  exact ⟨a, cap, rfl, ⟨h1, h2⟩, h5⟩
theorem RoN.rdn {w : World} {B : Nat} {v : Value} {A : List Int} (h : RoN w B v A) : Rdn w v A := by
  by_cases hn : 0 < A.length
  · obtain ⟨p, cap, rfl, _, hl, hlc, hm, hc, _⟩ := h.cells hn
    refine ⟨_, cap, rfl, ⟨hlc, by unfold maxLen; omega⟩, fun _ => ⟨p, 0, rfl, hl, fun i hi => ?_⟩⟩
    rw [Nat.zero_add]
    exact (hc i hi).1
  · have : A = [] := List.eq_nil_of_length_eq_zero (by omega)
    subst this
    rcases h with ⟨_, ⟨rfl, _⟩ | ⟨g, cap, cur, rfl, _, _, hlc, hm, _⟩⟩
    · exact ⟨none, 0, rfl, ⟨by simp, by simp [maxLen]⟩, fun e => absurd rfl e⟩
    · exact ⟨_, cap, rfl, ⟨hlc, hm⟩, fun e => absurd rfl e⟩
theorem Rdn.below {w w' : World} {v : Value} {A : List Int} (h : Rdn w v A) (hb : Below w.heap.size w w') : Rdn w' v A := by
  obtain ⟨a, cap, rfl, h1, h2⟩ := h
  refine ⟨a, cap, rfl, h1, fun hne => ?_⟩
  obtain ⟨b, off, rfl, hl, hc⟩ := h2 hne
  exact ⟨b, off, rfl, Nat.lt_of_lt_of_le hl hb.size, fun i hi => (hb.cell (p := ⟨b, off + i, none⟩) hl).trans (hc i hi)⟩
theorem Rdn.atE {w : World} {a : Option Addr} {n cap : Nat} {xs : List Int} (h : Rdn w (.slice a n cap) xs) {j : Nat} (hj : j < xs.length) : ∃ p off, a = some ⟨p, off, none⟩ ∧ ∀ i, i < xs.length → w.cell? ⟨p, off + i, none⟩ = some (.int .i64 (xs.getD i 0)) := by
  obtain ⟨a', cap', ev, _, hc⟩ := h
  simp only [Value.slice.injEq] at ev
  obtain ⟨rfl, _, rfl⟩ := ev
  obtain ⟨p, off, rfl, _, hat⟩ := hc (fun e => by rw [e] at hj; simp at hj)
  exact ⟨p, off, rfl, hat⟩
/-- Equal lists are alike. -/
theorem wints19 {w : World} {va vb : Value} {A : List Int} (ha : Rdn w va A) (hb : Rdn w vb A) : Calls Try.prog 19 #[va, vb] w fun e w' => e = .returned (.bool true) ∧ Below w.heap.size w w' := by
  have HA := keepG (fun (wr : World) (hc : Below w.heap.size w wr) => ha.below hc)
  have HB := keepG (fun (wr : World) (hc : Below w.heap.size w wr) => hb.below hc)
  obtain ⟨a1, c1, rfl, ⟨hc1, hm1⟩, _⟩ := ha
  obtain ⟨a2, c2, rfl, ⟨hc2, hm2⟩, _⟩ := hb
  unfold maxLen at hm1 hm2
  have hAl : A.length ≤ 9223372036854775807 := by omega
  go_enter Try.func19, Try.ntmps19
  go_wp2
  go_loopw [5] (fun i wr => ∃ j : Nat, j ≤ A.length ∧ i = .int .i64 j ∧ Hid (Below w.heap.size w wr)) (fun i _ => A.length - (intOf i).toNat)
  case atStart => exact ⟨0, by omega, rfl, Below.refl _ _⟩
  case round =>
    obtain ⟨j, hj, rfl, HBW⟩ := hrel
    rename World => wr
    by_cases hlt : j < A.length
    · have hltI : (j : Int) < A.length := by omega
      obtain ⟨p1, o1, ev1, hat1⟩ := (HA.out wr HBW.out).atE hlt
      obtain ⟨p2, o2, ev2, hat2⟩ := (HB.out wr HBW.out).atE hlt
      subst ev1 ev2
      have d1 := hat1 j hlt
      have d2 := hat2 j hlt
      obtain ⟨x, HX⟩ : ∃ x, Hid (A.getD j 0 = x) := ⟨_, rfl⟩
      rw [HX.out] at d1 d2
      clear hat1 hat2
      have HBd := keepG (below_drG HBW.out)
      go_wp2
      refine wp_region_held_drew (S := fun w' => w'.cell? ⟨p1, o1 + j, none⟩ = some (.int .i64 x) ∧ w'.cell? ⟨p2, o2 + j, none⟩ = some (.int .i64 x)) (by kernel_rfl) ⟨d1, d2⟩ (fun hHeld => ?_)
      refine wpAnyH_take (i := 0) (v := ?v1) rfl (by kernel_rfl) (by kernel_rfl) (by kernel_rfl) (fun _ _ _ h => h) (Or.inl ⟨by rfl, ?hy1⟩) (by assumption) ?rest1
      case hy1 => (intro wy hSw; (try dsimp only at hSw); go_simp; (first | done | with_reducible rfl))
      try simp only [Act.put, List.getElem_toArray, List.getElem_cons_zero, List.getElem_cons_succ, List.setIfInBounds_toArray, List.set_cons_zero, List.set_cons_succ]
      refine wpAnyH_take (i := 1) (v := ?v2) rfl (by kernel_rfl) (by kernel_rfl) (by kernel_rfl) (fun _ _ _ h => h) (Or.inl ⟨by rfl, ?hy2⟩) (by assumption) ?rest2
      case hy2 => (intro wy hSw; (try dsimp only at hSw); go_simp; (first | done | with_reducible rfl))
      try simp only [Act.put, List.getElem_toArray, List.getElem_cons_zero, List.getElem_cons_succ, List.setIfInBounds_toArray, List.set_cons_zero, List.set_cons_succ]
      refine wpAnyH_take (i := 2) (v := ?v3) rfl (by kernel_rfl) (by kernel_rfl) (by kernel_rfl) (fun _ _ _ h => h) (Or.inl ⟨by rfl, ?hy3⟩) (by assumption) ?rest3
      case hy3 => (intro wy hSw; (try dsimp only at hSw); go_simp; (first | done | with_reducible rfl))
      try simp only [Act.put, List.getElem_toArray, List.getElem_cons_zero, List.getElem_cons_succ, List.setIfInBounds_toArray, List.set_cons_zero, List.set_cons_succ]
      refine wpAnyH_take (i := 3) (v := ?v4) rfl (by kernel_rfl) (by kernel_rfl) (by kernel_rfl) (fun _ _ _ h => h) (Or.inl ⟨by rfl, ?hy4⟩) (by assumption) ?rest4
      case hy4 => (intro wy hSw; (try dsimp only at hSw); go_simp; (first | done | with_reducible rfl))
      try simp only [Act.put, List.getElem_toArray, List.getElem_cons_zero, List.getElem_cons_succ, List.setIfInBounds_toArray, List.set_cons_zero, List.set_cons_succ]
      refine wpAnyH_take (i := 4) (v := ?v5) rfl (by kernel_rfl) (by kernel_rfl) (by kernel_rfl) (fun _ _ _ h => h) (Or.inl ⟨by rfl, ?hy5⟩) (by assumption) ?rest5
      case hy5 => (intro wy hSw; (try dsimp only at hSw); go_simp; (first | done | with_reducible rfl))
      try simp only [Act.put, List.getElem_toArray, List.getElem_cons_zero, List.getElem_cons_succ, List.setIfInBounds_toArray, List.set_cons_zero, List.set_cons_succ]
      refine wpAnyH_take (i := 5) (v := ?v6) rfl (by kernel_rfl) (by kernel_rfl) (by kernel_rfl) (fun _ _ _ h => h) (Or.inl ⟨by rfl, ?hy6⟩) (by assumption) ?rest6
      case hy6 => (intro wy hSw; (try dsimp only at hSw); go_simp; (first | done | with_reducible rfl))
      try simp only [Act.put, List.getElem_toArray, List.getElem_cons_zero, List.getElem_cons_succ, List.setIfInBounds_toArray, List.set_cons_zero, List.set_cons_succ]
      refine wpAnyH_take (i := 6) (v := ?v7) rfl (by kernel_rfl) (by kernel_rfl) (by kernel_rfl) (fun _ _ _ h => h) (Or.inl ⟨by rfl, ?hy7⟩) (by assumption) ?rest7
      case hy7 => (intro wy hSw; (try dsimp only at hSw); go_simp; (first | done | with_reducible rfl))
      try simp only [Act.put, List.getElem_toArray, List.getElem_cons_zero, List.getElem_cons_succ, List.setIfInBounds_toArray, List.set_cons_zero, List.set_cons_succ]
      refine wpAnyH_take (i := 7) (v := ?v8) rfl (by kernel_rfl) (by kernel_rfl) (by kernel_rfl) (fun _ _ _ h => h) (Or.inl ⟨by rfl, ?hy8⟩) (by assumption) ?rest8
      case hy8 => (intro wy hSw; (try dsimp only at hSw); go_simp; (first | done | with_reducible rfl))
      try simp only [Act.put, List.getElem_toArray, List.getElem_cons_zero, List.getElem_cons_succ, List.setIfInBounds_toArray, List.set_cons_zero, List.set_cons_succ]
      refine wpAnyH_take (i := 8) (v := ?v9) rfl (by kernel_rfl) (by kernel_rfl) (by kernel_rfl) (fun _ _ _ h => h) (Or.inl ⟨by rfl, ?hy9⟩) (by assumption) ?rest9
      case hy9 => (intro wy hSw; (try dsimp only at hSw); go_simp; (first | done | with_reducible rfl))
      try simp only [Act.put, List.getElem_toArray, List.getElem_cons_zero, List.getElem_cons_succ, List.setIfInBounds_toArray, List.set_cons_zero, List.set_cons_succ]
      refine wpAnyH_done (by kernel_rfl) ?_ _
      clear hHeld
      go_wp2
      go_roundw
      case rel => exact ⟨j + 1, by omega, by go_num, HBd.out⟩
      case measure => simp [intOf]; omega
    · have hltI : ¬ (j : Int) < A.length := by omega
      go_wp2
      go_ret
      exact ⟨rfl, HBW.out⟩
theorem own_emptyP (w : World) (t : TypeId) (z : Nat) : (w.alloc (.cells #[] t)).ownsRow w.heap.size t z (.slice (some ⟨w.heap.size, 0, none⟩) 0 0) 0 [] := by
  refine ⟨by simp, .inr ⟨w.heap.size, 0, #[], rfl, Nat.le_refl _, heap_alloc_new w _, Nat.le_refl _, by simp [maxLen], by simp, by simp⟩⟩
/-- Both tables. -/
structure Pq (w0 w : World) (b d : Nat) (F G : Ft) (T Q : Tb) (m : Nat) : Prop where
  la : Lz w0 w b F T
  dj : ∃ B, B ≤ w.heap.size ∧ Dj w B d G Q m
  okq : Q.Ok
  sg : Since w0 G
  fg : Apt F G
/-- Both tables, a box, a row. -/
structure Pt (w0 w : World) (b d k : Nat) (F G : Ft) (T Q : Tb) (m : Nat) (bx : Ow) (vi : Value) (I : List Int) : Prop where
  pq : Pq w0 w b d F G T Q m
  box : Hp w k 35 (owC bx)
  ro : RoN w w0.heap.size vi I
  fk : ¬ F k
  gk : ¬ G k
  fi : Apt F (ftV vi)
  gi : Apt G (ftV vi)
section
variable {w0 w w' : World} {b d k m : Nat} {F F' G G' : Ft} {T T' Q Q' : Tb} {bx : Ow} {vi : Value} {I : List Int}
theorem Pq.below (h : Pq w0 w b d F G T Q m) (hb : Below w.heap.size w w') : Pq w0 w' b d F G T Q m := by
  obtain ⟨B, h1, h2⟩ := h.dj
  exact ⟨h.la.below hb, ⟨B, Nat.le_trans h1 hb.size, h2.below hb⟩, h.okq, h.sg, h.fg⟩
theorem Pq.mono (h : Pq w0 w b d F G T Q m) {m' : Nat} (hm : m ≤ m') : Pq w0 w b d F G T Q m' := by
  obtain ⟨B, h1, h2⟩ := h.dj
  exact ⟨h.la, ⟨B, h1, h2.mono hm⟩, h.okq, h.sg, h.fg⟩
theorem Pq.stepL (h : Pq w0 w b d F G T Q m) (hl : Lz w0 w' b F' T') (hn : Nx w w' F F') : Pq w0 w' b d F' G T' Q m := by
  obtain ⟨B, h1, h2⟩ := h.dj
  exact ⟨hl, ⟨B, Nat.le_trans h1 hn.chg.size, h2.keeps hn.chg h.fg⟩, h.okq, h.sg, h.fg.next h2.lies hn⟩
theorem Pq.stepD {B m' : Nat} (h : Pq w0 w b d F G T Q m) (h1 : B ≤ w.heap.size) (hd : Dj w' B d G' Q' m') (hk : Q'.Ok) (hn : Nx w w' G G') : Pq w0 w' b d F G' T Q' m' :=
  ⟨h.la.keeps hn.chg h.fg.symm h.sg, ⟨B, Nat.le_trans h1 hn.chg.size, hd⟩, hk, h.sg.next h.la.be.size hn, (h.fg.symm.next h.la.lies hn).symm⟩
theorem Pq.liesG (h : Pq w0 w b d F G T Q m) : Lies w G := by
  obtain ⟨B, h1, h2⟩ := h.dj
  exact h2.lies
theorem Pt.below (h : Pt w0 w b d k F G T Q m bx vi I) (hb : Below w.heap.size w w') : Pt w0 w' b d k F G T Q m bx vi I := ⟨h.pq.below hb, h.box.below hb h.box.lt, h.ro.below hb, h.fk, h.gk, h.fi, h.gi⟩
theorem Pt.drewN (h : Pt w0 w b d k F G T Q m bx vi I) (j : Nat) : Pt w0 (w.drewN j) b d k F G T Q m bx vi I := h.below ⟨rfl, rfl, rfl, Nat.le_refl _, fun _ _ => rfl⟩
theorem Pt.stepL (h : Pt w0 w b d k F G T Q m bx vi I) (hl : Lz w0 w' b F' T') (hn : Nx w w' F F') : Pt w0 w' b d k F' G T' Q m bx vi I := by
  refine ⟨h.pq.stepL hl hn, h.box.chg hn.chg h.fk, own_keeps h.ro hn.chg h.fi, fun e => ?_, h.gk, h.fi.next (own_lies h.ro) hn, h.gi⟩
  rcases hn.new k e with g | g
  · exact h.fk g
  · have := h.box.lt; omega
theorem Pt.stepD {B m' : Nat} (h : Pt w0 w b d k F G T Q m bx vi I) (h1 : B ≤ w.heap.size) (hd : Dj w' B d G' Q' m') (hk : Q'.Ok) (hn : Nx w w' G G') : Pt w0 w' b d k F G' T Q' m' bx vi I := by
  refine ⟨h.pq.stepD h1 hd hk hn, h.box.chg hn.chg h.gk, own_keeps h.ro hn.chg h.gi, h.fk, fun e => ?_, h.fi, h.gi.next (own_lies h.ro) hn⟩
  rcases hn.new k e with g | g
  · exact h.gk g
  · have := h.box.lt; omega
theorem Pt.attachL (h : Pt w0 w b d k F G T Q m bx vi I) (hla : T.last ≤ 1000000000000000) (x p : Int) {v E : Int} (HQ : Hid (T.put false x p = (v, E, T'))) : Calls Try.prog 13 #[.pointer (some ⟨b, 0, none⟩), .int .i64 x, .int .i64 p] w fun e w' => e = .returned (.tuple #[.int .i64 v, .int .i64 E]) ∧ ∃ F', Pt w0 w' b d k F' G T' Q m bx vi I := by
  refine (h.pq.la.attach hla x p HQ).mono ?_
  rintro e w' ⟨rfl, F', g1, g2⟩
  exact ⟨rfl, F', h.stepL g1 g2⟩
theorem Pt.swapL (h : Pt w0 w b d k F G T Q m bx vi I) (hla : T.last ≤ 1000000000000000) (x p : Int) {v E : Int} (HQ : Hid (T.put true x p = (v, E, T'))) : Calls Try.prog 14 #[.pointer (some ⟨b, 0, none⟩), .int .i64 x, .int .i64 p] w fun e w' => e = .returned (.tuple #[.int .i64 v, .int .i64 E]) ∧ ∃ F', Pt w0 w' b d k F' G T' Q m bx vi I := by
  refine (h.pq.la.swap hla x p HQ).mono ?_
  rintro e w' ⟨rfl, F', g1, g2⟩
  exact ⟨rfl, F', h.stepL g1 g2⟩
theorem Pt.putD (h : Pt w0 w b d k F G T Q m bx vi I) (hm : m ≤ 100000) (hla : Q.last ≤ 1000000000000000) (sw : Bool) (x p : Int) {v E : Int} (HQ : Hid (Q.put sw x p = (v, E, Q'))) : Calls Try.prog 17 #[.pointer (some ⟨d, 0, none⟩), .int .i64 x, .int .i64 p, .bool sw] w fun e w' => e = .returned (.tuple #[.int .i64 v, .int .i64 E]) ∧ ∃ G', Pt w0 w' b d k F G' T Q' (m + 4) bx vi I := by
  obtain ⟨B, h1, h2⟩ := h.pq.dj
  refine (dput h2 h.pq.okq h1 hm hla sw x p HQ).mono ?_
  rintro e w' ⟨rfl, G', g1, g2⟩
  exact ⟨rfl, G', h.stepD h1 (g1.mono (by omega)) (h.pq.okq.put HQ.out) g2⟩
theorem Pt.detachL (h : Pt w0 w b d k F G T Q m bx vi I) {u : Value} {xs : List Int} (hs : Sees .i64 w u xs) (hap : xs ≠ [] → Apt F (ftV u)) {E : Int} (HQ : Hid (T.det xs = (E, T'))) (hz : Hid (xs.length * 8 ≤ 140737488355328) := by first | assumption | (show _ ≤ _; simp)) : Calls Try.prog 15 #[.pointer (some ⟨b, 0, none⟩), u] w fun e w' => e = .returned (.int .i64 E) ∧ ∃ F', Pt w0 w' b d k F' G T' Q m bx vi I ∧ Nx w w' F F' := by
  refine (h.pq.la.detach hs hap HQ hz).mono ?_
  rintro e w' ⟨rfl, F', g1, g2⟩
  exact ⟨rfl, F', h.stepL g1 g2, g2⟩
theorem Pt.detachD (h : Pt w0 w b d k F G T Q m bx vi I) (hm : m ≤ 10000) {u : Value} {xs : List Int} (hs : Sees .i64 w u xs) (hap : xs ≠ [] → Apt G (ftV u)) {E : Int} (HQ : Hid (Q.det xs = (E, Q'))) : Calls Try.prog 18 #[.pointer (some ⟨d, 0, none⟩), u] w fun e w' => e = .returned (.int .i64 E) ∧ ∃ G', Pt w0 w' b d k F G' T Q' (m + 4) bx vi I := by
  obtain ⟨B, h1, h2⟩ := h.pq.dj
  refine (ddetach h2 h.pq.okq h1 hm hs hap HQ).mono ?_
  rintro e w' ⟨rfl, G', g1, g2⟩
  exact ⟨rfl, G', h.stepD h1 g1 (h.pq.okq.det HQ.out) g2⟩
theorem Pt.freshL (h : Pt w0 w b d k F G T Q m bx vi I) (hla : T.last ≤ 1000000000000000) (HQ : Hid (T.fresh = T')) : Calls Try.prog 20 #[.pointer (some ⟨b, 0, none⟩)] w fun e w' => e = .returned (.int .i64 T'.last) ∧ ∃ F', Pt w0 w' b d k F' G T' Q m bx vi I := by
  refine (h.pq.la.fresh hla HQ).mono ?_
  rintro e w' ⟨rfl, F', g1, g2⟩
  exact ⟨rfl, F', h.stepL g1 g2⟩
theorem Pt.setLast (h : Pt w0 w b d k F G T Q m bx vi I) (HQ : Hid (Q.fresh = Q')) : w.cell? ⟨d, 1, none⟩ = some (.int .i64 Q.last) ∧ w.frozen? ⟨d, 1, none⟩ = false ∧ Pt w0 (w.setCell ⟨d, 1, none⟩ (.int .i64 (Q.last + 1))) b d k F G T Q' m bx vi I := by
  obtain ⟨B, h1, h2⟩ := h.pq.dj
  have h3 := h2.setLast (Q.last + 1)
  refine ⟨h2.cell1.1, h2.cell1.2, ?_⟩
  have he : (⟨Q.last + 1, Q.at'⟩ : Tb) = Q' := HQ.out
  rw [he] at h3
  exact h.stepD h1 h3.1 (by rw [← HQ.out]; exact h.pq.okq.fresh) h3.2
theorem Pt.cellD (h : Pt w0 w b d k F G T Q m bx vi I) : w.cell? ⟨d, 1, none⟩ = some (.int .i64 Q.last) := by
  obtain ⟨B, h1, h2⟩ := h.pq.dj
  exact h2.cell1.1
theorem Pq.cellD (h : Pq w0 w b d F G T Q m) : w.cell? ⟨d, 1, none⟩ = some (.int .i64 Q.last) := by
  obtain ⟨B, h1, h2⟩ := h.dj
  exact h2.cell1.1
theorem Pq.curD (h : Pq w0 w b d F G T Q m) (hm : m ≤ 100000) (x : Int) {cv cp : Int} {r : Bool} (HC : Hid (Q.cur x = (cv, cp, r))) : Calls Try.prog 12 #[.pointer (some ⟨d, 0, none⟩), .int .i64 x] w fun e w' => e = .returned (.tuple #[.int .i64 cv, .int .i64 cp, .bool r]) ∧ Below w.heap.size w w' := by
  obtain ⟨B, h1, h2⟩ := h.dj
  exact h2.current h.okq hm x HC
theorem Pt.whereD (h : Pt w0 w b d k F G T Q m bx vi I) (hm : m ≤ 100000) {u : Value} {ps : List Int} (hs : Sees .i64 w u ps) {A : List Int} (HA : Hid (Q.wh ps = A)) : Calls Try.prog 21 #[.pointer (some ⟨d, 0, none⟩), u] w fun e w' => ∃ v, e = .returned v ∧ RoN w' w.heap.size v A ∧ Below w.heap.size w w' := by
  obtain ⟨B, h1, h2⟩ := h.pq.dj
  exact dwhere h2 h.pq.okq hm hs HA
end
end Go.Proofs.Ytknijloificpmaa
