
/-
  Layer 22: an owner in the midst of a law; lists and replies that are alike; the calls whose answers the document's examples fix. No condition.
-/
import Derived.Test.YtpbfgebecgikjaaTk
import Derived.Test.YtpbfgebecgikjaaW22Kit
namespace Go.Proofs.Ytpbfgebecgikjaa
open Go.RowKit
set_option linter.unusedVariables false
set_option linter.unusedSimpArgs false
set_option maxRecDepth 100000
/-- An owner that was made since a world, and its blocks. -/
structure Lz (w0 w : World) (b : Nat) (F : Ft) (o : On) : Prop where
  ex : ∃ B, B ≤ w.heap.size ∧ Lwn w B b F o
  since : Since w0 F
  ok : o.Ok
  be : Below w0.heap.size w0 w
section
variable {w0 w w' : World} {b : Nat} {F F' G : Ft} {o o' : On}
theorem Lz.lies (h : Lz w0 w b F o) : Lies w F := by
  obtain ⟨B, _, h1⟩ := h.ex
  exact h1.lies
theorem Lz.keeps (h : Lz w0 w b F o) (hc : Chg w w' G) (ha : Apt G F) (hs : Since w0 G) : Lz w0 w' b F o := by
  obtain ⟨B, h0, h1⟩ := h.ex
  exact ⟨⟨B, Nat.le_trans h0 hc.size, h1.keeps hc ha⟩, h.since, h.ok, h.be.trans (hc.below (fun k e => hs k e) h.be.size)⟩
theorem Lz.below (h : Lz w0 w b F o) (hb : Below w.heap.size w w') : Lz w0 w' b F o := h.keeps (Chg.of_below (S := fun _ => False) hb) (fun _ e => e.elim) (fun _ e => e.elim)
theorem Lz.apt (h : Lz w0 w b F o) {v : Value} {α : Type} {ws : List α} (hl : ws ≠ [] → ∀ k, ftV v k → k < w0.heap.size) : ws ≠ [] → Apt F (ftV v) := fun hne k hk e => by
  have := hl hne k e
  have := h.since k hk
  omega
/-- What lies where nothing of the owner lies. -/
theorem Lz.aptN (h : Lz w0 w b F o) {v : Value} {α : Type} {ws : List α} (hl : ∀ k, ftV v k → w.heap.size ≤ k) : ws ≠ [] → Apt F (ftV v) := fun _ k hk e => by
  have := hl k e
  have := h.lies k hk
  omega
theorem Lz.go (h : Lz w0 w b F o) (hx : ∃ B, B ≤ w.heap.size ∧ Lwn w' B b F' o') (hk : o'.Ok) (hn : Nx w w' F F') : Lz w0 w' b F' o' := by
  obtain ⟨B, h0, h1⟩ := hx
  exact ⟨⟨B, Nat.le_trans h0 hn.chg.size, h1⟩, h.since.next h.be.size hn, hk, h.since.be h.be hn⟩
theorem Lz.send (h : Lz w0 w b F o) {u : Value} {qs : List Rt} (hz : Hid ((o.ln.length + qs.length) * 56 ≤ 140737488355328)) (hs : SeesG rtC 7 Rt.nil w u qs) (hwf : ∀ q ∈ qs, q.wf) (hap : qs ≠ [] → Apt F (ftV u)) {E : Int} (HQ : Hid (o.send qs = (E, o'))) : Calls Try.prog 10 #[.pointer (some ⟨b, 0, none⟩), u] w fun e w' => e = .returned (.int .i64 E) ∧ ∃ F', Lz w0 w' b F' o' ∧ Nx w w' F F' := by
  obtain ⟨B, h0, h1⟩ := h.ex
  refine (h1.send h.ok h0 hz hs hwf hap HQ).mono ?_
  rintro e w' ⟨rfl, F', g1, g2⟩
  exact ⟨rfl, F', h.go ⟨B, h0, g1⟩ (h.ok.send HQ.out) g2, g2⟩
theorem Lz.step (h : Lz w0 w b F o) (hz : Hid (o.ln.length * 56 ≤ 140737488355328)) {p : Ry} {r : Bool} (HQ : Hid (o.step = (p, r, o'))) : Calls Try.prog 13 #[.pointer (some ⟨b, 0, none⟩)] w fun e w' => ∃ a c, e = .returned (.tuple #[rpV p (.slice a p.ps.length c), .bool r]) ∧ ∃ F', Lz w0 w' b F' o' ∧ Nx w w' F F' ∧ RoPp w' w.heap.size (.slice a p.ps.length c) p.ps ∧ Apt F' (ftV (.slice a p.ps.length c)) := by
  obtain ⟨B, h0, h1⟩ := h.ex
  refine (h1.step h.ok h0 hz HQ).mono ?_
  rintro e w' ⟨u, rfl, F', g1, g2, g3, g4⟩
  obtain ⟨a, c, rfl⟩ := own_shape g3
  exact ⟨a, c, rfl, F', h.go ⟨B, h0, g1⟩ (h.ok.step HQ.out) g2, g2, g3, g4⟩
theorem Lz.waiting (h : Lz w0 w b F o) (hz : Hid (o.ln.length * 56 ≤ 140737488355328)) {l : List Rt} (hl : Hid (o.ln = l)) : Calls Try.prog 21 #[.pointer (some ⟨b, 0, none⟩)] w fun e w' => ∃ a c, e = .returned (.slice a l.length c) ∧ RoRt w' w.heap.size (.slice a l.length c) l ∧ Below w.heap.size w w' := by
  obtain ⟨B, h0, h1⟩ := h.ex
  refine (h1.waiting hz).mono ?_
  rintro e w' ⟨u, rfl, g1, g2⟩
  rw [hl.out] at g1
  obtain ⟨a, c, rfl⟩ := own_shape g1
  exact ⟨a, c, rfl, g1, g2⟩
theorem Lz.endd (h : Lz w0 w b F o) {E : Int} (HQ : Hid (o.end = (E, o'))) : Calls Try.prog 16 #[.pointer (some ⟨b, 0, none⟩)] w fun e w' => e = .returned (.int .i64 E) ∧ ∃ F', Lz w0 w' b F' o' ∧ Nx w w' F F' := by
  obtain ⟨B, h0, h1⟩ := h.ex
  refine (h1.endd h0 HQ).mono ?_
  rintro e w' ⟨rfl, F', g1, g2⟩
  exact ⟨rfl, F', h.go ⟨B, h0, g1⟩ (h.ok.end HQ.out) g2, g2⟩
theorem Lz.ended (h : Lz w0 w b F o) : Calls Try.prog 22 #[.pointer (some ⟨b, 0, none⟩)] w fun e w' => e = .returned (.bool o.over) ∧ w = w' := by
  obtain ⟨B, h0, h1⟩ := h.ex
  exact h1.ended
theorem Lz.pairs (h : Lz w0 w b F o) (m : Int) {E : Int} {ps : List Pp} (HQ : Hid ((if o.hasM m = true then (0, (o.sr m).1) else (2, [])) = (E, ps))) : Calls Try.prog 18 #[.pointer (some ⟨b, 0, none⟩), .int .i64 m] w fun e w' => ∃ a c, e = .returned (.tuple #[.slice a ps.length c, .int .i64 E]) ∧ RoPp w' w.heap.size (.slice a ps.length c) ps ∧ Below w.heap.size w w' := by
  obtain ⟨B, h0, h1⟩ := h.ex
  refine (h1.pairs h.ok m HQ).mono ?_
  rintro e w' ⟨u, rfl, g1, g2⟩
  obtain ⟨a, c, rfl⟩ := own_shape g1
  exact ⟨a, c, rfl, g1, g2⟩
theorem lznew_ok (sh n : Int) {v : Value} {es : List (Int × Int)} {w1 : World} (hb : Below w0.heap.size w0 w1) (hs : SeesG dfC 2 (0, 0) w1 v es) (HN : Hid (newO sh n es = some o)) : Calls Try.prog 8 #[.int .i64 sh, .int .i64 n, v] w1 fun e w' => ∃ b F, e = .returned (.tuple #[.pointer (some ⟨b, 0, none⟩), .int .i64 0]) ∧ Lz w0 w' b F o ∧ Since w1 F ∧ Below w1.heap.size w1 w' := by
  refine (lonew_ok sh n w1 hs HN).mono ?_
  rintro e w' ⟨b, F, rfl, h1, h2, h3⟩
  obtain ⟨_, _, _, _, _, _, hok⟩ := newO_some HN.out
  exact ⟨b, F, rfl, ⟨⟨_, h3.size, h1⟩, fun k hk => Nat.le_trans hb.size (h2 k hk), hok, hb.trans (h3.mono hb.size)⟩, h2, h3⟩
end
theorem SeesG.oldG {α : Type} {f : α → List Value} {z : Nat} {d : α} {w0 : World} {v : Value} {xs : List α} (h : SeesG f z d w0 v xs) : xs ≠ [] → ∀ k, ftV v k → k < w0.heap.size := by
  intro hne k hk
  obtain ⟨a, c, rfl, _, _, _, hc⟩ := h
  obtain ⟨b, of, rfl, hlt, _⟩ := hc hne
  have : b = k := Option.some.inj hk
  omega
section
variable {w w' : World}
set_option maxHeartbeats 3200000 in
/-- Equal lines are alike. -/
theorem wlines {va vb : Value} {A : List Rt} (ha : SeesG rtC 7 Rt.nil w va A) (hb : SeesG rtC 7 Rt.nil w vb A) : Calls Try.prog 12 #[va, vb] w fun e w' => e = .returned (.bool true) ∧ Below w.heap.size w w' := by
  have HA := keepG (fun (wr : World) (hc : Below w.heap.size w wr) => ha.below hc (Nat.le_refl _))
  have HB := keepG (fun (wr : World) (hc : Below w.heap.size w wr) => hb.below hc (Nat.le_refl _))
  obtain ⟨a1, c1, ev1, hl1, hm1⟩ := ha.shape
  obtain ⟨a2, c2, ev2, hl2, hm2⟩ := hb.shape
  subst ev1 ev2
  have hAl : A.length ≤ 9223372036854775807 := by omega
  clear ha hb
  go_enter Try.func12, Try.ntmps12
  go_wp2
  go_loopw [5] (fun i wr => ∃ j : Nat, j ≤ A.length ∧ i = .int .i64 j ∧ Hid (Below w.heap.size w wr)) (fun i _ => A.length - (intOf i).toNat)
  case atStart => exact ⟨0, by omega, rfl, Below.refl _ _⟩
  case round =>
    obtain ⟨j, hj, rfl, HBW⟩ := hrel
    rename World => wr
    by_cases hlt : j < A.length
    · have hltI : (j : Int) < A.length := by omega
      obtain ⟨p1, o1, ev1, hat1⟩ := rtAt (HA.out wr HBW.out) hlt
      obtain ⟨p2, o2, ev2, hat2⟩ := rtAt (HB.out wr HBW.out) hlt
      subst ev1 ev2
      obtain ⟨t, HT⟩ : ∃ t, Hid (A.getD j Rt.nil = t) := ⟨_, rfl⟩
      obtain ⟨d0, d1, d2, d3, d4, d5, d6⟩ := hat1 j hlt t HT.out
      obtain ⟨e0, e1, e2, e3, e4, e5, e6⟩ := hat2 j hlt t HT.out
      obtain ⟨qf, qt, qw, qm, qo, qk, qv⟩ := t
      simp only at d0 d1 d2 d3 d4 d5 d6 e0 e1 e2 e3 e4 e5 e6
      clear hat1 hat2
      have HBd := keepG (below_drG HBW.out)
      go_wp2
      refine wp_region_held_drew (S := fun w' => (w'.cell? ⟨p1, o1 + j * 7, none⟩ = some (.int .i64 qf) ∧ w'.cell? ⟨p1, o1 + j * 7 + 1, none⟩ = some (.int .i64 qt) ∧ w'.cell? ⟨p1, o1 + j * 7 + 2, none⟩ = some (.bool qw) ∧ w'.cell? ⟨p1, o1 + j * 7 + 3, none⟩ = some (.int .i64 qm) ∧ w'.cell? ⟨p1, o1 + j * 7 + 4, none⟩ = some (.int .i64 qo) ∧ w'.cell? ⟨p1, o1 + j * 7 + 5, none⟩ = some (.int .u64 qk) ∧ w'.cell? ⟨p1, o1 + j * 7 + 6, none⟩ = some (.int .u64 qv)) ∧ w'.cell? ⟨p2, o2 + j * 7, none⟩ = some (.int .i64 qf) ∧ w'.cell? ⟨p2, o2 + j * 7 + 1, none⟩ = some (.int .i64 qt) ∧ w'.cell? ⟨p2, o2 + j * 7 + 2, none⟩ = some (.bool qw) ∧ w'.cell? ⟨p2, o2 + j * 7 + 3, none⟩ = some (.int .i64 qm) ∧ w'.cell? ⟨p2, o2 + j * 7 + 4, none⟩ = some (.int .i64 qo) ∧ w'.cell? ⟨p2, o2 + j * 7 + 5, none⟩ = some (.int .u64 qk) ∧ w'.cell? ⟨p2, o2 + j * 7 + 6, none⟩ = some (.int .u64 qv)) (by kernel_rfl) ⟨⟨d0, d1, d2, d3, d4, d5, d6⟩, e0, e1, e2, e3, e4, e5, e6⟩ (fun hHeld => ?_)
      refine tkGo [0, 1, 2, 3, 4, 5, 6, 7, 8] ?_
      repeat (refine tkOne (v := ?_) rfl (by kernel_rfl) (by kernel_rfl) (by kernel_rfl) (fun _ _ _ h => h) (by assumption) (by rfl) ?_ ?_; rotate_left; (intro wy hSw; (try dsimp only at hSw); go_simp; (first | done | with_reducible rfl)); try simp only [Act.put, List.getElem_toArray, List.getElem_cons_zero, List.getElem_cons_succ, List.setIfInBounds_toArray, List.set_cons_zero, List.set_cons_succ])
      refine tkEnd ?_
      refine wpAnyH_done (by kernel_rfl) ?_ _
      clear hHeld
      go_wp2
      go_roundw
      case rel => exact ⟨j + 1, by omega, by go_num, HBd.out⟩
      case measure => simp [intOf]; omega
    · have hltI : ¬ (j : Int) < A.length := by omega
      go_wp2
      go_ret
      exact ⟨rfl, HBW.out⟩
theorem ppAt {a : Option Addr} {n cap : Nat} {l : List Pp} (h : SeesG ppC 2 Pp.nil w (.slice a n cap) l) {j : Nat} (hj : j < l.length) : ∃ p off, a = some ⟨p, off, none⟩ ∧ ∀ i, i < l.length → ∀ q, l.getD i Pp.nil = q → w.cell? ⟨p, off + i * 2, none⟩ = some (.int .u64 q.k) ∧ w.cell? ⟨p, off + i * 2 + 1, none⟩ = some (.int .u64 q.v) := by
  obtain ⟨a', cap', ev, _, _, _, hat⟩ := h
  simp only [Value.slice.injEq] at ev
  obtain ⟨rfl, _, rfl⟩ := ev
  obtain ⟨p, off, rfl, _, hc⟩ := hat (fun e => by rw [e] at hj; simp at hj)
  refine ⟨p, off, rfl, fun i hi q hq => ?_⟩
  have g0 := hc i hi 0 (by omega)
  have g1 := hc i hi 1 (by omega)
  rw [hq] at g0 g1
  exact ⟨g0, g1⟩
set_option maxHeartbeats 3200000 in
/-- Equal pairs are alike. -/
theorem wpairs22 {va vb : Value} {A : List Pp} (ha : SeesG ppC 2 Pp.nil w va A) (hb : SeesG ppC 2 Pp.nil w vb A) : Calls Try.prog 19 #[va, vb] w fun e w' => e = .returned (.bool true) ∧ Below w.heap.size w w' := by
  have HA := keepG (fun (wr : World) (hc : Below w.heap.size w wr) => ha.below hc (Nat.le_refl _))
  have HB := keepG (fun (wr : World) (hc : Below w.heap.size w wr) => hb.below hc (Nat.le_refl _))
  obtain ⟨a1, c1, ev1, hl1, hm1⟩ := ha.shape
  obtain ⟨a2, c2, ev2, hl2, hm2⟩ := hb.shape
  subst ev1 ev2
  have hAl : A.length ≤ 9223372036854775807 := by omega
  clear ha hb
  go_enter Try.func19, Try.ntmps19
  go_wp2
  go_loopw [5] (fun i wr => ∃ j : Nat, j ≤ A.length ∧ i = .int .i64 j ∧ Hid (Below w.heap.size w wr)) (fun i _ => A.length - (intOf i).toNat)
  case atStart => exact ⟨0, by omega, rfl, Below.refl _ _⟩
  case round =>
    obtain ⟨j, hj, rfl, HBW⟩ := hrel
    rename World => wr
    by_cases hlt : j < A.length
    · have hltI : (j : Int) < A.length := by omega
      obtain ⟨p1, o1, ev1, hat1⟩ := ppAt (HA.out wr HBW.out) hlt
      obtain ⟨p2, o2, ev2, hat2⟩ := ppAt (HB.out wr HBW.out) hlt
      subst ev1 ev2
      obtain ⟨t, HT⟩ : ∃ t, Hid (A.getD j Pp.nil = t) := ⟨_, rfl⟩
      obtain ⟨d0, d1⟩ := hat1 j hlt t HT.out
      obtain ⟨e0, e1⟩ := hat2 j hlt t HT.out
      obtain ⟨qk, qv⟩ := t
      simp only at d0 d1 e0 e1
      clear hat1 hat2
      have HBd := keepG (below_drG HBW.out)
      go_wp2
      refine wp_region_held_drew (S := fun w' => (w'.cell? ⟨p1, o1 + j * 2, none⟩ = some (.int .u64 qk) ∧ w'.cell? ⟨p1, o1 + j * 2 + 1, none⟩ = some (.int .u64 qv)) ∧ w'.cell? ⟨p2, o2 + j * 2, none⟩ = some (.int .u64 qk) ∧ w'.cell? ⟨p2, o2 + j * 2 + 1, none⟩ = some (.int .u64 qv)) (by kernel_rfl) ⟨⟨d0, d1⟩, e0, e1⟩ (fun hHeld => ?_)
      refine tkGo [0, 1, 2, 3, 4, 5, 6, 7, 8] ?_
      repeat (refine tkOne (v := ?_) rfl (by kernel_rfl) (by kernel_rfl) (by kernel_rfl) (fun _ _ _ h => h) (by assumption) (by rfl) ?_ ?_; rotate_left; (intro wy hSw; (try dsimp only at hSw); go_simp; (first | done | with_reducible rfl)); try simp only [Act.put, List.getElem_toArray, List.getElem_cons_zero, List.getElem_cons_succ, List.setIfInBounds_toArray, List.set_cons_zero, List.set_cons_succ])
      refine tkEnd ?_
      refine wpAnyH_done (by kernel_rfl) ?_ _
      clear hHeld
      go_wp2
      go_roundw
      case rel => exact ⟨j + 1, by omega, by go_num, HBd.out⟩
      case measure => simp [intOf]; omega
    · have hltI : ¬ (j : Int) < A.length := by omega
      go_wp2
      go_ret
      exact ⟨rfl, HBW.out⟩
set_option maxHeartbeats 6400000 in
/-- Equal replies are alike. -/
theorem walike {p : Ry} {va vb : Value} (ha : SeesG ppC 2 Pp.nil w va p.ps) (hb : SeesG ppC 2 Pp.nil w vb p.ps) : Calls Try.prog 15 #[rpV p va, rpV p vb] w fun e w' => e = .returned (.bool true) ∧ Below w.heap.size w w' := by
  obtain ⟨a1, c1, ev1, hl1, hm1⟩ := ha.shape
  obtain ⟨a2, c2, ev2, hl2, hm2⟩ := hb.shape
  subst ev1 ev2
  obtain ⟨q, x, ps⟩ := p
  obtain ⟨qf, qt, qw, qm, qo, qk, qv⟩ := q
  obtain ⟨xE, xf, xv, xo, xk, xu⟩ := x
  simp only at ha hb hl1 hl2
  obtain ⟨X, HX, hbX, HPX⟩ : ∃ X, Hid (w.alloc (.cells (rpC ⟨⟨qf, qt, qw, qm, qo, qk, qv⟩, ⟨xE, xf, xv, xo, xk, xu⟩, ps⟩ (.slice a1 ps.length c1)).toArray 50) = X) ∧ Below w.heap.size w X ∧ Hid (Hp X w.heap.size 50 (rpC ⟨⟨qf, qt, qw, qm, qo, qk, qv⟩, ⟨xE, xf, xv, xo, xk, xu⟩, ps⟩ (.slice a1 ps.length c1))) := ⟨_, rfl, below_allocG _ _, Hp.new w _ _⟩
  obtain ⟨Y, HY, hbY, HPY⟩ : ∃ Y, Hid (X.alloc (.cells (rpC ⟨⟨qf, qt, qw, qm, qo, qk, qv⟩, ⟨xE, xf, xv, xo, xk, xu⟩, ps⟩ (.slice a2 ps.length c2)).toArray 50) = Y) ∧ Below X.heap.size X Y ∧ Hid (Hp Y X.heap.size 50 (rpC ⟨⟨qf, qt, qw, qm, qo, qk, qv⟩, ⟨xE, xf, xv, xo, xk, xu⟩, ps⟩ (.slice a2 ps.length c2))) := ⟨_, rfl, below_allocG _ _, Hp.new X _ _⟩
  have HPX2 := keepG (HPX.out.below hbY HPX.out.lt)
  have hbw := hbX.trans (hbY.mono hbX.size)
  have HSA := keepG (ha.below hbw (Nat.le_refl _))
  have HSB := keepG (hb.below hbw (Nat.le_refl _))
  have HBW := keepG hbw
  clear ha hb hbX hbY hbw HPX HPY HPX2
  unfold rpV
  go_enter Try.func15, Try.ntmps15
  go_wp2_with (first
    | (go_at_call 19; rw [HX.out, HY.out]; go_must (refine (wpairs22 HSA.out HSB.out).mono ?_); rintro e w3 ⟨rfl, hb3⟩; go_must (have HB3 := keepG (HBW.out.trans (hb3.mono HBW.out.size)); clear hb3)))
  go_ret
  exact ⟨rfl, HB3.out⟩
end
theorem lit_rts (w : World) (qs : List Rt) (hl : qs.length ≤ 4194304) : SeesG rtC 7 Rt.nil (w.alloc (.cells (flatG rtC qs).toArray 45)) (.slice (some ⟨w.heap.size, 0, none⟩) qs.length qs.length) qs := SeesG.lit rtC_len Rt.nil w _ qs _ _ rfl rfl hl
theorem ft_litO {w : World} {k l c : Nat} : ftV (.slice (some ⟨w.heap.size, 0, none⟩) l c) k → w.heap.size ≤ k := fun e => by
  have : w.heap.size = k := Option.some.inj e
  omega
set_option maxHeartbeats 6400000 in
theorem awake22_any (w : World) : Calls Try.prog 7 #[] w fun e w' => e = .returned (.bool true) ∧ Below w.heap.size w w' := by
  obtain ⟨o1, HN⟩ : ∃ o1, Hid (newO 0 2 [(0, 1)] = some o1) := ⟨_, rfl⟩
  have ho1 : o1 = On.new 0 2 [(false, 1)] := by
    have := HN.out
    injection this with this
    rw [← this]
    rfl
  have HQ1 : Hid (o1.send [⟨5, 9, false, 0, 2, 0, 7⟩, ⟨6, 0, true, 0, 0, 0, 0⟩] = (0, ⟨0, 2, [(false, 1)], [([], [])], [⟨5, 9, false, 0, 2, 0, 7⟩, ⟨6, 0, true, 0, 0, 0, 0⟩], false⟩)) := by
    show _ = _
    rw [ho1]
    rfl
  have HQ2 : Hid ((⟨0, 2, [(false, 1)], [([], [])], [⟨5, 9, false, 0, 2, 0, 7⟩, ⟨6, 0, true, 0, 0, 0, 0⟩], false⟩ : On).step = (⟨⟨5, 9, false, 0, 2, 0, 7⟩, ⟨0, false, 0, false, 0, 0⟩, []⟩, true, ⟨0, 2, [(false, 1)], [([⟨0, 7⟩], [])], [⟨6, 0, true, 0, 0, 0, 0⟩], false⟩)) := by show _ = _; rfl
  have HQ3 : Hid ((⟨0, 2, [(false, 1)], [([⟨0, 7⟩], [])], [⟨6, 0, true, 0, 0, 0, 0⟩], false⟩ : On).step = (⟨⟨6, 0, true, 0, 0, 0, 0⟩, Rq.none, [⟨0, 7⟩]⟩, true, ⟨0, 2, [(false, 1)], [([⟨0, 7⟩], [])], [], false⟩)) := by show _ = _; rfl
  have HZ0 : Hid (o1.ln.length = 0) := by show _ = _; rw [ho1]; rfl
  clear ho1
  go_enter Try.func7, Try.ntmps7
  go_wp2_with (first
    | (go_at_call 8; go_must (refine (lznew_ok (w0 := w) 0 2 (es := [(0, 1)]) (below_allocG w _) (SeesG.lit dfC_len (0, 0) w 74 [(0, 1)] _ 1 rfl rfl (by simp)) HN).mono ?_); rintro e w1 ⟨b, F, rfl, hL, _, _⟩; go_must (have HL := keepG hL; obtain ⟨Z, HZ, hbZ, HSZ⟩ : ∃ Z, Hid (w1.alloc (.cells #[.int .i64 5, .int .i64 9, .bool false, .int .i64 0, .int .i64 2, .int .u64 0, .int .u64 7, .int .i64 6, .int .i64 0, .bool true, .int .i64 0, .int .i64 0, .int .u64 0, .int .u64 0] 45) = Z) ∧ Below w1.heap.size w1 Z ∧ Hid (SeesG rtC 7 Rt.nil Z (.slice (some ⟨w1.heap.size, 0, none⟩) 2 2) [⟨5, 9, false, 0, 2, 0, 7⟩, ⟨6, 0, true, 0, 0, 0, 0⟩]) := ⟨_, rfl, below_allocG _ _, lit_rts w1 [⟨5, 9, false, 0, 2, 0, 7⟩, ⟨6, 0, true, 0, 0, 0, 0⟩] (by simp)⟩; have HLZ := keepG (hL.below hbZ); have HAZ := keepG (hL.aptN (α := Rt) (ws := [⟨5, 9, false, 0, 2, 0, 7⟩, ⟨6, 0, true, 0, 0, 0, 0⟩]) (v := .slice (some ⟨w1.heap.size, 0, none⟩) 2 2) (fun k e => ft_litO e)); clear hL hbZ))
    | (go_at_call 10; rw [HZ.out]; go_must (refine (HLZ.out.send (by show _ ≤ _; rw [HZ0.out]; simp) HSZ.out (by intro q hq; simp at hq; rcases hq with e | e <;> subst e <;> exact ⟨by decide, by decide⟩) HAZ.out HQ1).mono ?_); rintro e w2 ⟨rfl, F2, hL2, _⟩; go_must (have HL2 := keepG hL2; clear hL2))
    | (have hq := HL3; clear hq; go_at_call 13; go_must (refine (HLY.out.step (by show _ ≤ _; simp) HQ3).mono ?_); rintro e w4 ⟨a4, c4, rfl, F4, hL4, hn4, hr4, _⟩; go_must (have HL4 := keepG hL4; unfold rpV; obtain ⟨p4, cc4, ev, -, hp4, hc4, hm4, hat4⟩ := own_atG ppC_len Pp.nil hr4 (by simp); simp only [Value.slice.injEq, true_and] at ev; obtain ⟨rfl, rfl⟩ := ev; have g1 : w4.cell? ⟨p4, 1, none⟩ = some (.int .u64 7) := (hat4 0 (by simp) 1 (by decide)).1; have HP4 := keepG (HPY.out.chg hn4.chg (fun e => by have := HL3.out.lies _ e; omega)); have hl4 := HP4.out.lt; obtain ⟨W5, HW5, hb5, HP5⟩ : ∃ W5, Hid (w4.alloc (.cells (rpC ⟨⟨6, 0, true, 0, 0, 0, 0⟩, Rq.none, [⟨0, 7⟩]⟩ (.slice (some ⟨p4, 0, none⟩) 1 c4)).toArray 50) = W5) ∧ Below w4.heap.size w4 W5 ∧ Hid (Hp W5 w4.heap.size 50 (rpC ⟨⟨6, 0, true, 0, 0, 0, 0⟩, Rq.none, [⟨0, 7⟩]⟩ (.slice (some ⟨p4, 0, none⟩) 1 c4))) := ⟨_, rfl, below_allocG _ _, Hp.new w4 _ _⟩; have HP6 := keepG (HP4.out.below hb5 hl4); have x0 := HP6.out.cell (j := 0) rfl; have x1 := HP6.out.cell (j := 1) rfl; have z2 := HP5.out.cell (j := 2) rfl; have z13 := HP5.out.cell (j := 13) rfl; have g2 := (hb5.cell (p := ⟨p4, 1, none⟩) hp4).trans g1; have HL5 := keepG (HL4.out.below hb5); clear hL4 hr4 hn4 hat4 hb5 g1))
    | (go_at_call 13; go_must (refine (HL2.out.step (by show _ ≤ _; simp) HQ2).mono ?_); rintro e w3 ⟨a3, c3, rfl, F3, hL3, _, _, _⟩; go_must (have HL3 := keepG hL3; unfold rpV; obtain ⟨Y, HY, HLY, HPY⟩ : ∃ Y, Hid (w3.alloc (.cells (rpC ⟨⟨5, 9, false, 0, 2, 0, 7⟩, ⟨0, false, 0, false, 0, 0⟩, []⟩ (.slice a3 0 c3)).toArray 50) = Y) ∧ Hid (Lz w Y b F3 ⟨0, 2, [(false, 1)], [([⟨0, 7⟩], [])], [⟨6, 0, true, 0, 0, 0, 0⟩], false⟩) ∧ Hid (Hp Y w3.heap.size 50 (rpC ⟨⟨5, 9, false, 0, 2, 0, 7⟩, ⟨0, false, 0, false, 0, 0⟩, []⟩ (.slice a3 0 c3))) := ⟨_, rfl, hL3.below (below_allocG _ _), Hp.new w3 _ _⟩; clear hL3))
    | (rw [HW5.out])
    | (rw [HY.out]))
  go_ret
  exact ⟨rfl, HL5.out.be⟩
end Go.Proofs.Ytpbfgebecgikjaa
