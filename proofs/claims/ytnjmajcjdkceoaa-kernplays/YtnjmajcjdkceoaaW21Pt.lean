
/-
  The landed kern of layer 21 and the document's, apart, with a call's box and a row of numbers. No condition.
-/
import Derived.Test.YtnjmajcjdkceoaaTk
import Derived.Test.YtnjmajcjdkceoaaW21S
namespace Go.Proofs.Ytnjmajcjdkceoaa
open Go.RowKit
set_option linter.unusedVariables false
set_option linter.unusedSimpArgs false
set_option maxRecDepth 100000
/-- A slice that reads as these numbers, whatever they are. -/
def Rdn (w : World) (v : Value) (A : List Int) : Prop := ∃ a cap, v = .slice a A.length cap ∧ (A.length ≤ cap ∧ cap ≤ maxLen) ∧ (A ≠ [] → ∃ b off, a = some ⟨b, off, none⟩ ∧ b < w.heap.size ∧ ∀ i, i < A.length → w.cell? ⟨b, off + i, none⟩ = some (.int .i64 (A.getD i 0)))
theorem Sees.rdn {w : World} {v : Value} {A : List Int} (h : Sees .i64 w v A) : Rdn w v A := by
  obtain ⟨a, cap, rfl, h1, h2, h3, h4, h5⟩ := h
  exact ⟨a, cap, rfl, ⟨h1, h2⟩, h5⟩
theorem RoN.rdn {w : World} {B : Nat} {v : Value} {A : List Int} (h : RoN w B v A) : Rdn w v A := by
  by_cases hn : 0 < A.length
  · obtain ⟨p, cap, rfl, _, hl, hlc, hm, hc, _⟩ := h.cells hn
    refine ⟨_, cap, rfl, ⟨hlc, by unfold maxLen; omega⟩, fun _ => ⟨p, 0, rfl, hl, fun i hi => ?_⟩⟩
    rw [Nat.zero_add]
    exact (hc i hi).1
  · have : A = [] := List.eq_nil_of_length_eq_zero (by omega)
    subst this
    rcases h with ⟨_, ⟨rfl, _⟩ | ⟨g, cap, cur, rfl, _, _, hlc, hm, _⟩⟩
    · exact ⟨none, 0, rfl, ⟨by simp, by simp [maxLen]⟩, fun e => absurd rfl e⟩
    · exact ⟨_, cap, rfl, ⟨hlc, hm⟩, fun e => absurd rfl e⟩
theorem Rdn.below {w w' : World} {v : Value} {A : List Int} (h : Rdn w v A) (hb : Below w.heap.size w w') : Rdn w' v A := by
  obtain ⟨a, cap, rfl, h1, h2⟩ := h
  refine ⟨a, cap, rfl, h1, fun hne => ?_⟩
  obtain ⟨b, off, rfl, hl, hc⟩ := h2 hne
  exact ⟨b, off, rfl, Nat.lt_of_lt_of_le hl hb.size, fun i hi => (hb.cell (p := ⟨b, off + i, none⟩) hl).trans (hc i hi)⟩
theorem Rdn.atE {w : World} {a : Option Addr} {n cap : Nat} {xs : List Int} (h : Rdn w (.slice a n cap) xs) {j : Nat} (hj : j < xs.length) : ∃ p off, a = some ⟨p, off, none⟩ ∧ ∀ i, i < xs.length → w.cell? ⟨p, off + i, none⟩ = some (.int .i64 (xs.getD i 0)) := by
  obtain ⟨a', cap', ev, _, hc⟩ := h
  simp only [Value.slice.injEq] at ev
  obtain ⟨rfl, _, rfl⟩ := ev
  obtain ⟨p, off, rfl, _, hat⟩ := hc (fun e => by rw [e] at hj; simp at hj)
  exact ⟨p, off, rfl, hat⟩
/-- Equal lists are alike. -/
theorem wints21 {w : World} {va vb : Value} {A : List Int} (ha : Rdn w va A) (hb : Rdn w vb A) : Calls Try.prog 19 #[va, vb] w fun e w' => e = .returned (.bool true) ∧ Below w.heap.size w w' := by
  have HA := keepG (fun (wr : World) (hc : Below w.heap.size w wr) => ha.below hc)
  have HB := keepG (fun (wr : World) (hc : Below w.heap.size w wr) => hb.below hc)
  obtain ⟨a1, c1, rfl, ⟨hc1, hm1⟩, _⟩ := ha
  obtain ⟨a2, c2, rfl, ⟨hc2, hm2⟩, _⟩ := hb
  unfold maxLen at hm1 hm2
  have hAl : A.length ≤ 9223372036854775807 := by omega
  go_enter Try.func19, Try.ntmps19
  go_wp2
  go_loopw [5] (fun i wr => ∃ j : Nat, j ≤ A.length ∧ i = .int .i64 j ∧ Hid (Below w.heap.size w wr)) (fun i _ => A.length - (intOf i).toNat)
  case atStart => exact ⟨0, by omega, rfl, Below.refl _ _⟩
  case round =>
    obtain ⟨j, hj, rfl, HBW⟩ := hrel
    rename World => wr
    by_cases hlt : j < A.length
    · have hltI : (j : Int) < A.length := by omega
      obtain ⟨p1, o1, ev1, hat1⟩ := (HA.out wr HBW.out).atE hlt
      obtain ⟨p2, o2, ev2, hat2⟩ := (HB.out wr HBW.out).atE hlt
      subst ev1 ev2
      have d1 := hat1 j hlt
      have d2 := hat2 j hlt
      obtain ⟨x, HX⟩ : ∃ x, Hid (A.getD j 0 = x) := ⟨_, rfl⟩
      rw [HX.out] at d1 d2
      clear hat1 hat2
      have HBd := keepG (below_drG HBW.out)
      go_wp2
      refine wp_region_held_drew (S := fun w' => w'.cell? ⟨p1, o1 + j, none⟩ = some (.int .i64 x) ∧ w'.cell? ⟨p2, o2 + j, none⟩ = some (.int .i64 x)) (by kernel_rfl) ⟨d1, d2⟩ (fun hHeld => ?_)
      refine tkGo [0, 1, 2, 3, 4, 5, 6, 7, 8] ?_
      repeat (refine tkOne (v := ?_) rfl (by kernel_rfl) (by kernel_rfl) (by kernel_rfl) (fun _ _ _ h => h) (by assumption) (by rfl) ?_ ?_; rotate_left; (intro wy hSw; (try dsimp only at hSw); go_simp; (first | done | with_reducible rfl)); try simp only [Act.put, List.getElem_toArray, List.getElem_cons_zero, List.getElem_cons_succ, List.setIfInBounds_toArray, List.set_cons_zero, List.set_cons_succ])
      refine tkEnd ?_
      refine wpAnyH_done (by kernel_rfl) ?_ _
      clear hHeld
      go_wp2
      go_roundw
      case rel => exact ⟨j + 1, by omega, by go_num, HBd.out⟩
      case measure => simp [intOf]; omega
    · have hltI : ¬ (j : Int) < A.length := by omega
      go_wp2
      go_ret
      exact ⟨rfl, HBW.out⟩
/-- The document's kern, and its blocks. -/
def Dn (w : World) (B d : Nat) (G : Ft) (J : Kn) : Prop := ∃ g v, Dk w B d g v J ∧ G = ftK d g v
section
variable {w w' : World} {B d : Nat} {G G' S : Ft} {J J' : Kn}
theorem Dn.lies (h : Dn w B d G J) : Lies w G := by
  obtain ⟨g, v, h1, rfl⟩ := h
  exact h1.lies
theorem Dn.keeps (h : Dn w B d G J) (hc : Chg w w' S) (ha : Apt S G) : Dn w' B d G J := by
  obtain ⟨g, v, h1, rfl⟩ := h
  exact ⟨g, v, h1.chg hc ha, rfl⟩
theorem Dn.below (h : Dn w B d G J) (hb : Below w.heap.size w w') : Dn w' B d G J := h.keeps (Chg.of_below (S := fun _ => False) hb) (fun _ e => e.elim)
theorem Dn.turn (h : Dn w B d G J) (md : Int) {u : Value} {xs : List Int} (hs : Sees .i64 w u xs) (hap : xs ≠ [] → Apt G (ftV u)) {E : Int} (HQ : Hid (J.turn md xs = (E, J'))) : Calls Try.prog 10 #[.pointer (some ⟨d, 0, none⟩), .int .i64 md, u] w fun e w' => e = .returned (.int .i64 E) ∧ Dn w' B d G J' ∧ Nx w w' G G := by
  obtain ⟨g, v, h1, rfl⟩ := h
  refine (dturn h1 md hs (fun hne j hj e => hap hne j (.inl (.inr e)) hj) HQ).mono ?_
  rintro e w' ⟨rfl, g1, g2⟩
  exact ⟨rfl, ⟨g, v, g1, rfl⟩, g2.mono (fun k e => .inl (.inr e)), fun k e => .inl e⟩
theorem Dn.set (h : Dn w B d G J) (hk : J.Ok) {u : Value} {rs : List Bool} (hs : SeesG bK 1 false w u rs) (hap : rs ≠ [] → Apt G (ftV u)) {E : Int} (HQ : Hid (J.set rs = (E, J'))) : Calls Try.prog 14 #[.pointer (some ⟨d, 0, none⟩), u] w fun e w' => e = .returned (.int .i64 E) ∧ Dn w' B d G J' ∧ Nx w w' G G := by
  obtain ⟨g, v, h1, rfl⟩ := h
  refine (dset h1 hk hs (fun hne j hj e => hap hne j (.inl (.inr e)) hj) HQ).mono ?_
  rintro e w' ⟨rfl, g1, g2⟩
  exact ⟨rfl, ⟨g, v, g1, rfl⟩, g2.mono (fun k e => .inl (.inr e)), fun k e => .inl e⟩
theorem Dn.pick (h : Dn w B d G J) (hk : J.Ok) (hB : B ≤ w.heap.size) (hl : J.p.length ≤ 1000000) (c : Int) {t : Int} {r : Bool} (HQ : Hid (J.pick c = (t, r, J'))) : Calls Try.prog 16 #[.pointer (some ⟨d, 0, none⟩), .int .i64 c] w fun e w' => e = .returned (.tuple #[.int .i64 t, .bool r]) ∧ ∃ G', Dn w' B d G' J' ∧ Nx w w' G G' := by
  obtain ⟨g, v, h1, rfl⟩ := h
  refine (dpick h1 hk hB hl c HQ).mono ?_
  rintro e w' ⟨rfl, v', g1, g2⟩
  exact ⟨rfl, _, ⟨g, v', g1, rfl⟩, g2⟩
theorem Dn.fair (h : Dn w B d G J) (hk : J.Ok) (hB : B ≤ w.heap.size) (hl : J.p.length ≤ 1000000) {t : Int} {r : Bool} (HQ : Hid (J.fair = (t, r, J'))) : Calls Try.prog 18 #[.pointer (some ⟨d, 0, none⟩)] w fun e w' => e = .returned (.tuple #[.int .i64 t, .bool r]) ∧ ∃ G', Dn w' B d G' J' ∧ Nx w w' G G' := by
  obtain ⟨g, v, h1, rfl⟩ := h
  refine (dfair h1 hk hB hl HQ).mono ?_
  rintro e w' ⟨rfl, v', g1, g2⟩
  exact ⟨rfl, _, ⟨g, v', g1, rfl⟩, g2⟩
theorem Dn.inn (h : Dn w B d G J) (hk : J.Ok) (md : Int) {A : List Int} (HA : Hid (J.inM md = A)) : Calls Try.prog 21 #[.pointer (some ⟨d, 0, none⟩), .int .i64 md] w fun e w' => ∃ u, e = .returned u ∧ RoN w' w.heap.size u A ∧ Below w.heap.size w w' := by
  obtain ⟨g, v, h1, rfl⟩ := h
  exact din h1 hk md HA
theorem Dn.picks (h : Dn w B d G J) : ∃ a c, ∀ wx, Below w.heap.size w wx → wx.cell? ⟨d, 1, none⟩ = some (.slice a J.p.length c) := by
  obtain ⟨g, v, h1, rfl⟩ := h
  obtain ⟨a, c, e⟩ := own_shape h1.row
  refine ⟨a, c, fun wx hb => ?_⟩
  rw [← e]
  exact (h1.below hb).low.2
end
/-- Both kerns. -/
structure Pq (w0 w : World) (b d : Nat) (F G : Ft) (K J : Kn) (m : Nat) : Prop where
  la : Lz w0 w b F K
  dn : ∃ B, B ≤ w.heap.size ∧ Dn w B d G J
  okj : J.Ok
  sg : Since w0 G
  fg : Apt F G
  cn : J.p.length ≤ m
/-- Both kerns, a box, a row. -/
structure Pt (w0 w : World) (b d k : Nat) (F G : Ft) (K J : Kn) (m : Nat) (bx : Ow) (vi : Value) (I : List Int) : Prop where
  pq : Pq w0 w b d F G K J m
  box : Hp w k 34 (owC bx)
  ro : RoN w w0.heap.size vi I
  fk : ¬ F k
  gk : ¬ G k
  fi : Apt F (ftV vi)
  gi : Apt G (ftV vi)
section
variable {w0 w w' : World} {b d k m m' : Nat} {F F' G G' : Ft} {K K' J J' : Kn} {bx : Ow} {vi : Value} {I : List Int}
theorem Pq.below (h : Pq w0 w b d F G K J m) (hb : Below w.heap.size w w') : Pq w0 w' b d F G K J m := by
  obtain ⟨B, h1, h2⟩ := h.dn
  exact ⟨h.la.below hb, ⟨B, Nat.le_trans h1 hb.size, h2.below hb⟩, h.okj, h.sg, h.fg, h.cn⟩
theorem Pq.stepL (h : Pq w0 w b d F G K J m) (hl : Lz w0 w' b F' K') (hn : Nx w w' F F') : Pq w0 w' b d F' G K' J m := by
  obtain ⟨B, h1, h2⟩ := h.dn
  exact ⟨hl, ⟨B, Nat.le_trans h1 hn.chg.size, h2.keeps hn.chg h.fg⟩, h.okj, h.sg, h.fg.next h2.lies hn, h.cn⟩
theorem Pq.stepD {B : Nat} (h : Pq w0 w b d F G K J m) (h1 : B ≤ w.heap.size) (hd : Dn w' B d G' J') (hk : J'.Ok) (hn : Nx w w' G G') (hm : J'.p.length ≤ m') : Pq w0 w' b d F G' K J' m' :=
  ⟨h.la.keeps hn.chg h.fg.symm h.sg, ⟨B, Nat.le_trans h1 hn.chg.size, hd⟩, hk, h.sg.next h.la.be.size hn, (h.fg.symm.next h.la.lies hn).symm, hm⟩
theorem Pt.below (h : Pt w0 w b d k F G K J m bx vi I) (hb : Below w.heap.size w w') : Pt w0 w' b d k F G K J m bx vi I := ⟨h.pq.below hb, h.box.below hb h.box.lt, h.ro.below hb, h.fk, h.gk, h.fi, h.gi⟩
theorem Pt.drewN (h : Pt w0 w b d k F G K J m bx vi I) (j : Nat) : Pt w0 (w.drewN j) b d k F G K J m bx vi I := h.below ⟨rfl, rfl, rfl, Nat.le_refl _, fun _ _ => rfl⟩
theorem Pt.stepL (h : Pt w0 w b d k F G K J m bx vi I) (hl : Lz w0 w' b F' K') (hn : Nx w w' F F') : Pt w0 w' b d k F' G K' J m bx vi I := by
  refine ⟨h.pq.stepL hl hn, h.box.chg hn.chg h.fk, own_keeps h.ro hn.chg h.fi, fun e => ?_, h.gk, h.fi.next (own_lies h.ro) hn, h.gi⟩
  rcases hn.new k e with g | g
  · exact h.fk g
  · have := h.box.lt; omega
theorem Pt.stepD {B : Nat} (h : Pt w0 w b d k F G K J m bx vi I) (h1 : B ≤ w.heap.size) (hd : Dn w' B d G' J') (hk : J'.Ok) (hn : Nx w w' G G') (hm : J'.p.length ≤ m') : Pt w0 w' b d k F G' K J' m' bx vi I := by
  refine ⟨h.pq.stepD h1 hd hk hn hm, h.box.chg hn.chg h.gk, own_keeps h.ro hn.chg h.gi, h.fk, fun e => ?_, h.fi, h.gi.next (own_lies h.ro) hn⟩
  rcases hn.new k e with g | g
  · exact h.gk g
  · have := h.box.lt; omega
theorem Pt.turnD (h : Pt w0 w b d k F G K J m bx vi I) {md : Int} (hmd : md = 0 ∨ md = 1 ∨ md = 2) {u : Value} {xs : List Int} (hs : Sees .i64 w u xs) (hap : xs ≠ [] → Apt G (ftV u)) {E : Int} (HQ : Hid (J.turn md xs = (E, J'))) : Calls Try.prog 10 #[.pointer (some ⟨d, 0, none⟩), .int .i64 md, u] w fun e w' => e = .returned (.int .i64 E) ∧ Pt w0 w' b d k F G K J' m bx vi I := by
  obtain ⟨B, h1, h2⟩ := h.pq.dn
  refine (h2.turn md hs hap HQ).mono ?_
  rintro e w' ⟨rfl, g1, g2⟩
  exact ⟨rfl, h.stepD h1 g1 (h.pq.okj.turn hmd HQ.out) g2 (by rw [(Kn.turn_len HQ.out).2]; exact h.pq.cn)⟩
theorem Pt.setD (h : Pt w0 w b d k F G K J m bx vi I) {u : Value} {rs : List Bool} (hs : SeesG bK 1 false w u rs) (hap : rs ≠ [] → Apt G (ftV u)) {E : Int} (HQ : Hid (J.set rs = (E, J'))) : Calls Try.prog 14 #[.pointer (some ⟨d, 0, none⟩), u] w fun e w' => e = .returned (.int .i64 E) ∧ Pt w0 w' b d k F G K J' m bx vi I := by
  obtain ⟨B, h1, h2⟩ := h.pq.dn
  refine (h2.set h.pq.okj hs hap HQ).mono ?_
  rintro e w' ⟨rfl, g1, g2⟩
  exact ⟨rfl, h.stepD h1 g1 (h.pq.okj.set HQ.out) g2 (by rw [(Kn.set_len HQ.out).2]; exact h.pq.cn)⟩
theorem Pt.pickD (h : Pt w0 w b d k F G K J m bx vi I) (hm : m ≤ 1000) (c : Int) {t : Int} {r : Bool} (HQ : Hid (J.pick c = (t, r, J'))) : Calls Try.prog 16 #[.pointer (some ⟨d, 0, none⟩), .int .i64 c] w fun e w' => e = .returned (.tuple #[.int .i64 t, .bool r]) ∧ ∃ G', Pt w0 w' b d k F G' K J' (m + 1) bx vi I := by
  obtain ⟨B, h1, h2⟩ := h.pq.dn
  refine (h2.pick h.pq.okj h1 (by have := h.pq.cn; omega) c HQ).mono ?_
  rintro e w' ⟨rfl, G', g1, g2⟩
  exact ⟨rfl, G', h.stepD h1 g1 (h.pq.okj.pick' HQ.out) g2 (by have := (Kn.pick_len HQ.out).2.1; have := h.pq.cn; omega)⟩
theorem Pt.fairD (h : Pt w0 w b d k F G K J m bx vi I) (hm : m ≤ 1000) {t : Int} {r : Bool} (HQ : Hid (J.fair = (t, r, J'))) : Calls Try.prog 18 #[.pointer (some ⟨d, 0, none⟩)] w fun e w' => e = .returned (.tuple #[.int .i64 t, .bool r]) ∧ ∃ G', Pt w0 w' b d k F G' K J' (m + 1) bx vi I := by
  obtain ⟨B, h1, h2⟩ := h.pq.dn
  refine (h2.fair h.pq.okj h1 (by have := h.pq.cn; omega) HQ).mono ?_
  rintro e w' ⟨rfl, G', g1, g2⟩
  exact ⟨rfl, G', h.stepD h1 g1 (h.pq.okj.fair HQ.out) g2 (by have := (Kn.fair_len HQ.out).2.1; have := h.pq.cn; omega)⟩
theorem Pt.more (h : Pt w0 w b d k F G K J m bx vi I) (hm : m ≤ m') : Pt w0 w b d k F G K J m' bx vi I := ⟨⟨h.pq.la, h.pq.dn, h.pq.okj, h.pq.sg, h.pq.fg, Nat.le_trans h.pq.cn hm⟩, h.box, h.ro, h.fk, h.gk, h.fi, h.gi⟩
theorem Pt.inD (h : Pt w0 w b d k F G K J m bx vi I) (md : Int) {A : List Int} (HA : Hid (J.inM md = A)) : Calls Try.prog 21 #[.pointer (some ⟨d, 0, none⟩), .int .i64 md] w fun e w' => ∃ u, e = .returned u ∧ RoN w' w.heap.size u A ∧ Below w.heap.size w w' := by
  obtain ⟨B, h1, h2⟩ := h.pq.dn
  exact h2.inn h.pq.okj md HA
theorem Pt.picksD (h : Pt w0 w b d k F G K J m bx vi I) : ∃ a c, ∀ wx, Below w.heap.size w wx → wx.cell? ⟨d, 1, none⟩ = some (.slice a J.p.length c) := by
  obtain ⟨B, h1, h2⟩ := h.pq.dn
  exact h2.picks
end
end Go.Proofs.Ytnjmajcjdkceoaa
