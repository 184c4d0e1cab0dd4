
/-
  The landed owner of layer 22: reply, Step. Condition: it lies where the pointer says.
-/
import Derived.Test.YtpbfgebecgikjaaTk
import Derived.Test.YtpbfgebecgikjaaO22LA
namespace Go.Proofs.Ytpbfgebecgikjaa
open Go.RowKit
set_option linter.unusedVariables false
set_option linter.unusedSimpArgs false
set_option maxRecDepth 100000
theorem rp_ret1 {fn : Func} {p : Tmp} {w2 : World} {n : Nat} {tmps : Array Value} {r : Ry} {u : Value} {Q : Ending → World → Prop} (hr : fn.results = #[.cell p 50]) (hp : tmps.getD p undef = .pointer (some ⟨n, 0, none⟩)) (hx : Hp w2 n 50 (rpC r u)) (hQ : Q (.returned (rpV r u)) w2) : bodyPost Try.prog fn Q .ret ⟨tmps, []⟩ w2 := by
  refine bodyPost_ret (v := rpV r u) ?_ rfl hQ
  rw [results_cellG hr, hp]
  simp only [asAddr, Sem.run_pure, Result.andThen]
  rw [run_boxRp hx]
theorem rp_cellsL {w : World} {n : Nat} {p : Ry} {u : Value} (h : Hp w n 50 (rpC p u)) : (w.cell? ⟨n, 0, none⟩ = some (.int .i64 p.q.f) ∧ w.cell? ⟨n, 1, none⟩ = some (.int .i64 p.q.t) ∧ w.cell? ⟨n, 2, none⟩ = some (.bool p.q.wk) ∧ w.cell? ⟨n, 3, none⟩ = some (.int .i64 p.q.m) ∧ w.cell? ⟨n, 4, none⟩ = some (.int .i64 p.q.op) ∧ w.cell? ⟨n, 5, none⟩ = some (.int .u64 p.q.k) ∧ w.cell? ⟨n, 6, none⟩ = some (.int .u64 p.q.v)) ∧ w.cell? ⟨n, 7, none⟩ = some (.int .i64 p.x.E) ∧ w.cell? ⟨n, 8, none⟩ = some (.bool p.x.f) ∧ w.cell? ⟨n, 9, none⟩ = some (.int .u64 p.x.v) ∧ w.cell? ⟨n, 10, none⟩ = some (.bool p.x.o) ∧ w.cell? ⟨n, 11, none⟩ = some (.int .u64 p.x.k) ∧ w.cell? ⟨n, 12, none⟩ = some (.int .u64 p.x.u) ∧ w.cell? ⟨n, 13, none⟩ = some u :=
  ⟨⟨h.cell (j := 0) rfl, h.cell (j := 1) rfl, h.cell (j := 2) rfl, h.cell (j := 3) rfl, h.cell (j := 4) rfl, h.cell (j := 5) rfl, h.cell (j := 6) rfl⟩, h.cell (j := 7) rfl, h.cell (j := 8) rfl, h.cell (j := 9) rfl, h.cell (j := 10) rfl, h.cell (j := 11) rfl, h.cell (j := 12) rfl, h.cell (j := 13) rfl⟩
theorem hp_frL {w : World} {n : Nat} {t : TypeId} {cs : List Value} (h : Hp w n t cs) : (w.frozen? ⟨n, 0, none⟩ = false ∧ w.frozen? ⟨n, 1, none⟩ = false ∧ w.frozen? ⟨n, 2, none⟩ = false ∧ w.frozen? ⟨n, 3, none⟩ = false ∧ w.frozen? ⟨n, 4, none⟩ = false ∧ w.frozen? ⟨n, 5, none⟩ = false ∧ w.frozen? ⟨n, 6, none⟩ = false) ∧ w.frozen? ⟨n, 7, none⟩ = false ∧ w.frozen? ⟨n, 8, none⟩ = false ∧ w.frozen? ⟨n, 9, none⟩ = false ∧ w.frozen? ⟨n, 10, none⟩ = false ∧ w.frozen? ⟨n, 11, none⟩ = false ∧ w.frozen? ⟨n, 12, none⟩ = false ∧ w.frozen? ⟨n, 13, none⟩ = false :=
  ⟨⟨h.frozen 0, h.frozen 1, h.frozen 2, h.frozen 3, h.frozen 4, h.frozen 5, h.frozen 6⟩, h.frozen 7, h.frozen 8, h.frozen 9, h.frozen 10, h.frozen 11, h.frozen 12, h.frozen 13⟩
/-- The four boxes that reply makes. -/
structure Bx (w X : World) (y : Rt) : Prop where
  be : Below w.heap.size w X
  sz : X.heap.size = w.heap.size + 4
  q : Hp X w.heap.size 45 (rtC y)
  a : Hp X (w.heap.size + 1) 50 (rpC Ry.nil (.slice none 0 0))
  i : Hp X (w.heap.size + 2) 43 [.int .i64 y.m, .int .i64 y.op, .int .u64 y.k, .int .u64 y.v]
  r : Hp X (w.heap.size + 3) 50 (rpC ⟨y, Rq.none, []⟩ (.slice none 0 0))
theorem bx_new (w : World) (tf tt : Int) (wk : Bool) (k top tk tz : Int) : ∃ X, Hid ((((w.alloc (.cells #[.int .i64 tf, .int .i64 tt, .bool wk, .int .i64 k, .int .i64 top, .int .u64 tk, .int .u64 tz] 45)).alloc (.cells #[.int .i64 0, .int .i64 0, .bool false, .int .i64 0, .int .i64 0, .int .u64 0, .int .u64 0, .int .i64 0, .bool false, .int .u64 0, .bool false, .int .u64 0, .int .u64 0, .slice none 0 0] 50)).alloc (.cells #[.int .i64 k, .int .i64 top, .int .u64 tk, .int .u64 tz] 43)).alloc (.cells #[.int .i64 tf, .int .i64 tt, .bool wk, .int .i64 k, .int .i64 top, .int .u64 tk, .int .u64 tz, .int .i64 0, .bool false, .int .u64 0, .bool false, .int .u64 0, .int .u64 0, .slice none 0 0] 50) = X) ∧ Bx w X ⟨tf, tt, wk, k, top, tk, tz⟩ := by
  obtain ⟨W1, h1⟩ : ∃ W1, w.alloc (.cells #[.int .i64 tf, .int .i64 tt, .bool wk, .int .i64 k, .int .i64 top, .int .u64 tk, .int .u64 tz] 45) = W1 := ⟨_, rfl⟩
  have z1 : W1.heap.size = w.heap.size + 1 := by rw [← h1]; simp
  have b1 : Below w.heap.size w W1 := by rw [← h1]; exact below_allocG _ _
  have p1 : Hp W1 w.heap.size 45 (rtC ⟨tf, tt, wk, k, top, tk, tz⟩) := by rw [← h1]; exact Hp.new w (rtC ⟨tf, tt, wk, k, top, tk, tz⟩) _
  obtain ⟨W2, h2⟩ : ∃ W2, W1.alloc (.cells #[.int .i64 0, .int .i64 0, .bool false, .int .i64 0, .int .i64 0, .int .u64 0, .int .u64 0, .int .i64 0, .bool false, .int .u64 0, .bool false, .int .u64 0, .int .u64 0, .slice none 0 0] 50) = W2 := ⟨_, rfl⟩
  have z2 : W2.heap.size = w.heap.size + 2 := by rw [← h2]; simp [z1]
  have b2 : Below W1.heap.size W1 W2 := by rw [← h2]; exact below_allocG _ _
  have p2 : Hp W2 (w.heap.size + 1) 50 (rpC Ry.nil (.slice none 0 0)) := by rw [← h2, ← z1]; exact Hp.new W1 (rpC Ry.nil (.slice none 0 0)) _
  obtain ⟨W3, h3⟩ : ∃ W3, W2.alloc (.cells #[.int .i64 k, .int .i64 top, .int .u64 tk, .int .u64 tz] 43) = W3 := ⟨_, rfl⟩
  have z3 : W3.heap.size = w.heap.size + 3 := by rw [← h3]; simp [z2]
  have b3 : Below W2.heap.size W2 W3 := by rw [← h3]; exact below_allocG _ _
  have p3 : Hp W3 (w.heap.size + 2) 43 [.int .i64 k, .int .i64 top, .int .u64 tk, .int .u64 tz] := by rw [← h3, ← z2]; exact Hp.new W2 [.int .i64 k, .int .i64 top, .int .u64 tk, .int .u64 tz] _
  obtain ⟨W4, h4⟩ : ∃ W4, W3.alloc (.cells #[.int .i64 tf, .int .i64 tt, .bool wk, .int .i64 k, .int .i64 top, .int .u64 tk, .int .u64 tz, .int .i64 0, .bool false, .int .u64 0, .bool false, .int .u64 0, .int .u64 0, .slice none 0 0] 50) = W4 := ⟨_, rfl⟩
  have z4 : W4.heap.size = w.heap.size + 4 := by rw [← h4]; simp [z3]
  have b4 : Below W3.heap.size W3 W4 := by rw [← h4]; exact below_allocG _ _
  have p4 : Hp W4 (w.heap.size + 3) 50 (rpC ⟨⟨tf, tt, wk, k, top, tk, tz⟩, Rq.none, []⟩ (.slice none 0 0)) := by rw [← h4, ← z3]; exact Hp.new W3 (rpC ⟨⟨tf, tt, wk, k, top, tk, tz⟩, Rq.none, []⟩ (.slice none 0 0)) _
  refine ⟨W4, ?_, ((b1.trans (b2.mono (by omega))).trans (b3.mono (by omega))).trans (b4.mono (by omega)), z4, ((p1.below b2 p1.lt).below b3 (p1.below b2 p1.lt).lt).below b4 ((p1.below b2 p1.lt).below b3 (p1.below b2 p1.lt).lt).lt, (p2.below b3 p2.lt).below b4 (p2.below b3 p2.lt).lt, p3.below b4 p3.lt, p4⟩
  show _ = _
  rw [h1, h2, h3, h4]
section
variable {w w' w2 : World} {B b : Nat} {rv lv lv2 : Value} {vs : List Value} {F : Nat → Ft} {o o' : On} {l : List Rt}
set_option maxHeartbeats 12800000 in
theorem lreply_true (h : Lwo w B b rv lv vs F o) {k : Nat} (hk : k < vs.length) (hinv : InvSh (o.dl k).1 (o.dl k).2 (o.sl k)) (hcap : (o.dl k).2 ≤ 16) (hB : B ≤ w.heap.size) (tf tt top tk tz : Int) {p : Ry} {o' : On} (HS : Hid (o.serve ⟨tf, tt, true, (k : Int), top, tk, tz⟩ o.ln = (p, o'))) : Calls Try.prog 28 #[.pointer (some ⟨b, 0, none⟩), .agg #[.int .i64 tf, .int .i64 tt, .bool true, .int .i64 k, .int .i64 top, .int .u64 tk, .int .u64 tz]] w fun e w' => ∃ u, e = .returned (rpV p u) ∧ ∃ F', Lwo w' B b rv lv vs F' o' ∧ Nx w w' (footO b rv lv vs.length F) (footO b rv lv vs.length F') ∧ RoPp w' w.heap.size u p.ps ∧ Apt (footO b rv lv vs.length F') (ftV u) := by
  obtain ⟨X, HX, hbx⟩ := bx_new w tf tt true (k : Int) top tk tz
  have HBX := keepG hbx
  have HLW := keepG h
  obtain ⟨n, HN⟩ : ∃ n, Hid (w.heap.size = n) := ⟨_, rfl⟩
  have HLX := keepG (h.below hbx.be)
  have HLXd := keepG ((h.below hbx.be).below (below_drG (Below.refl X.heap.size X)))
  obtain ⟨g, cap, ev, hg, _⟩ := h.at hk
  subst ev
  obtain ⟨v, HV⟩ : ∃ v, Hid (vs.getD k .nilIface = v) := ⟨_, rfl⟩
  have HSS : Hid (∀ (wx : World) (F1 : Nat → Ft) (o1 : On), Lwo wx B b (.slice (some ⟨g, 0, none⟩) vs.length cap) lv vs F1 o1 → Hp wx (n + 2) 43 [.int .i64 k, .int .i64 top, .int .u64 tk, .int .u64 tz] → wx.cell? ⟨b, 2, none⟩ = some (.slice (some ⟨g, 0, none⟩) vs.length cap) ∧ wx.cell? ⟨n + 2, 0, none⟩ = some (.int .i64 k) ∧ wx.cell? ⟨g, k, none⟩ = some v ∧ wx.cell? ⟨n + 2, 1, none⟩ = some (.int .i64 top) ∧ wx.cell? ⟨n + 2, 2, none⟩ = some (.int .u64 tk) ∧ wx.cell? ⟨n + 2, 3, none⟩ = some (.int .u64 tz)) := by
    intro wx F1 o1 hl hp
    obtain ⟨g', cap', ev, _, d0⟩ := hl.at hk
    simp only [Value.slice.injEq, Option.some.injEq, Addr.mk.injEq, true_and, and_true] at ev
    obtain ⟨rfl, rfl⟩ := ev
    rw [HV.out] at d0
    exact ⟨hl.low.2.2.1, hp.cell (j := 0) rfl, d0, hp.cell (j := 1) rfl, hp.cell (j := 2) rfl, hp.cell (j := 3) rfl⟩
  rw [HN.out] at hg
  have e2 : X.cell? ⟨n, 2, none⟩ = some (.bool true) := by rw [← HN.out]; exact hbx.q.cell (j := 2) rfl
  have HPI : Hid (Hp X (n + 2) 43 [.int .i64 k, .int .i64 top, .int .u64 tk, .int .u64 tz]) := by rw [← HN.out]; exact hbx.i
  have HPR : Hid (Hp X (n + 3) 50 (rpC ⟨(⟨tf, tt, true, (k : Int), top, tk, tz⟩ : Rt), Rq.none, []⟩ (.slice none 0 0))) := by rw [← HN.out]; exact hbx.r
  have HPA : Hid (Hp X (n + 1) 50 (rpC Ry.nil (.slice none 0 0))) := by rw [← HN.out]; exact hbx.a
  obtain ⟨s0, s1, s2, s3, s4, s5⟩ := HSS.out X F o HLX.out HPI.out
  have hkI : (k : Int) < vs.length := by omega
  have HK := keepG hk
  have hs := HS.out
  rw [show o.serve (⟨tf, tt, true, (k : Int), top, tk, tz⟩ : Rt) o.ln = (⟨(⟨tf, tt, true, (k : Int), top, tk, tz⟩ : Rt), Rq.none, (o.sl k).1⟩, o) by unfold On.serve; rw [if_pos rfl]; rfl] at hs
  injection hs with h1 h2
  subst h1 h2
  obtain ⟨ff, fx, hvia, hcall⟩ := (HLXd.out.fam.ob k hk).pairs hinv hcap
  obtain ⟨t, u, ev, hmeth, hcf⟩ := hvia
  rw [HV.out] at ev
  subst ev
  have HCP := keepG hcall
  clear h hbx hcall hinv hcap hk hB HS
  go_enter Try.func28, Try.ntmps28
  go_wp2_with (first | (rw [HX.out, HN.out]) | (refine wp_region_held_drew (S := fun w' => w'.cell? ⟨b, 2, none⟩ = some (.slice (some ⟨g, 0, none⟩) vs.length cap) ∧ w'.cell? ⟨n + 2, 0, none⟩ = some (.int .i64 k) ∧ w'.cell? ⟨g, k, none⟩ = some (.iface t u) ∧ w'.cell? ⟨n + 2, 1, none⟩ = some (.int .i64 top) ∧ w'.cell? ⟨n + 2, 2, none⟩ = some (.int .u64 tk) ∧ w'.cell? ⟨n + 2, 3, none⟩ = some (.int .u64 tz)) (by kernel_rfl) ⟨s0, s1, s2, s3, s4, s5⟩ (fun hHeld => ?_)))
  refine tkGo [0, 1, 2, 3, 4, 5, 6, 7] ?_
  repeat (refine tkOne (v := ?_) rfl (by kernel_rfl) (by kernel_rfl) (by kernel_rfl) (fun _ _ _ h => h) (by assumption) (by rfl) ?_ ?_; rotate_left; (intro wy hSw; (try dsimp only at hSw); go_simp; (first | done | with_reducible rfl)); try simp only [Act.put, List.getElem_toArray, List.getElem_cons_zero, List.getElem_cons_succ, List.setIfInBounds_toArray, List.set_cons_zero, List.set_cons_succ])
  refine tkEnd ?_
  refine wpAnyH_ready (rs := [8]) (by kernel_rfl) (by simp) ?_
  refine AllReadyH.cons rfl (fun KK hK => ?_) AllReadyH.nil
  rw [if_pos (by rfl)]
  go_simp
  refine HCP.out.mono ?_
  rintro e w6 ⟨u1, rfl, hr6, hb6⟩
  obtain ⟨ua, uc, ev⟩ := own_shape hr6
  subst ev
  have hb7 : Below X.heap.size X w6 := below_undrG hb6
  have HP6 := keepG (HPR.out.below hb7 HPR.out.lt)
  have HA6 := keepG (HPA.out.below hb7 HPA.out.lt)
  have HI6 := keepG (HPI.out.below hb7 HPI.out.lt)
  have HL6 := keepG (HLX.out.below hb7)
  have HR6 : Hid (w6.ownsRow X.heap.size 80 2 (.slice ua (o.sl k).1.length uc) (o.sl k).1.length (flatG ppC (o.sl k).1)) := hr6
  have HB6 := keepG hb7
  clear hr6 hb6 hb7
  go_simp
  refine hK.out _ _ (HSS.out w6 F o HL6.out HI6.out) (fun hHeld => ?_)
  clear hK KK
  try simp only [Act.put, List.getElem_toArray, List.getElem_cons_zero, List.getElem_cons_succ, List.setIfInBounds_toArray, List.set_cons_zero, List.set_cons_succ]
  have y13 := HP6.out.cell (j := 13) rfl
  have f13 := HP6.out.frozen 13
  have hgn3 : ¬ n + 3 = g := by omega
  have hbn3 : ¬ n + 3 = b := by have := HLW.out.hp.lt; have := HN.out; omega
  obtain ⟨W7, HW7, HP7, HA7, HI7, HL7, HC7⟩ : ∃ W7, Hid (w6.setCell ⟨n + 3, 13, none⟩ (.slice ua (o.sl k).1.length uc) = W7) ∧ Hid (Hp W7 (n + 3) 50 (rpC ⟨(⟨tf, tt, true, (k : Int), top, tk, tz⟩ : Rt), Rq.none, (o.sl k).1⟩ (.slice ua (o.sl k).1.length uc))) ∧ Hid (Hp W7 (n + 1) 50 (rpC Ry.nil (.slice none 0 0))) ∧ Hid (Hp W7 (n + 2) 43 [.int .i64 k, .int .i64 top, .int .u64 tk, .int .u64 tz]) ∧ Hid (Lwo W7 B b (.slice (some ⟨g, 0, none⟩) vs.length cap) lv vs F o) ∧ Hid (Chg w6 W7 (fun j => j = n + 3)) := ⟨_, rfl, HP6.out.set 13 _, HA6.out.far (by omega), HI6.out.far (by omega), HL6.out.chg (Chg.set w6 (n + 3) 13 _) (fun j e1 e2 => by have := HLW.out.lies j e2; have e3 : j = n + 3 := e1; have := HN.out; omega), Chg.set w6 (n + 3) 13 _⟩
  refine tkGo [9] ?_
  repeat (refine tkOne (v := ?_) rfl (by kernel_rfl) (by kernel_rfl) (by kernel_rfl) (fun _ _ _ h => h) (by assumption) (by rfl) ?_ ?_; rotate_left; (intro wy hSw; (try dsimp only at hSw); go_simp; (first | done | with_reducible rfl)); try simp only [Act.put, List.getElem_toArray, List.getElem_cons_zero, List.getElem_cons_succ, List.setIfInBounds_toArray, List.set_cons_zero, List.set_cons_succ])
  refine tkEnd ?_
  refine wpAnyH_ready (rs := [10]) (by kernel_rfl) (by simp) ?_
  refine AllReadyH.cons rfl (fun KK hK => ?_) AllReadyH.nil
  rw [if_pos (by rfl)]
  go_simp
  rw [HW7.out]
  refine hK.out _ _ (HSS.out W7 F o HL7.out HI7.out) (fun hHeld => ?_)
  clear hK KK
  try simp only [Act.put, List.getElem_toArray, List.getElem_cons_zero, List.getElem_cons_succ, List.setIfInBounds_toArray, List.set_cons_zero, List.set_cons_succ]
  refine wpAnyH_done (by kernel_rfl) ?_ _
  clear hHeld
  obtain ⟨⟨x0, x1, x2, x3, x4, x5, x6⟩, x7, x8, x9, x10, x11, x12, x13⟩ := rp_cellsL HP7.out
  obtain ⟨⟨z0, z1, z2, z3, z4, z5, z6⟩, z7, z8, z9, z10, z11, z12, z13⟩ := rp_cellsL HA7.out
  obtain ⟨⟨y0, y1, y2, y3, y4, y5, y6⟩, y7, y8, y9, y10, y11, y12, y14⟩ := hp_frL HA7.out
  simp only [Rq.none] at x7 x8 x9 x10 x11 x12
  clear s0 s1 s2 s3 s4 s5 e2 y13 f13
  go_wp2
  have HCA := keepG (Chg.sets W7 (n + 1) 0 (rpC ⟨(⟨tf, tt, true, (k : Int), top, tk, tz⟩ : Rt), Rq.none, (o.sl k).1⟩ (.slice ua (o.sl k).1.length uc)))
  have hxz : X.heap.size = n + 4 := by have := HBX.out.sz; have := HN.out; omega
  refine rp_ret1 rfl rfl (HA7.out.sets (rpC ⟨(⟨tf, tt, true, (k : Int), top, tk, tz⟩ : Rt), Rq.none, (o.sl k).1⟩ (.slice ua (o.sl k).1.length uc)) 0) ⟨_, rfl, F, ?_, ⟨?_, fun j hj => .inl hj⟩, ?_, ?_⟩
  · exact HL7.out.chg HCA.out (fun j e1 e2 => by have := HLW.out.lies j e2; have e3 : j = n + 1 := e1; have := HN.out; omega)
  · exact ((Chg.of_below (HBX.out.be.trans (HB6.out.mono HBX.out.be.size))).trans HC7.out (fun j h1 e => by have e3 : j = n + 3 := e; have := HN.out; omega)).trans HCA.out (fun j h1 e => by have e3 : j = n + 1 := e; have := HN.out; omega)
  · exact own_lowG (own_chg (own_chg HR6.out HC7.out (fun j hj e => by have := (HR6.out.lt j hj).1; have e3 : j = n + 3 := e; omega)) HCA.out (fun j hj e => by have := (HR6.out.lt j hj).1; have e3 : j = n + 1 := e; omega)) HBX.out.be.size
  · exact fun j e1 e2 => by have := HLW.out.lies j e1; have := (HR6.out.lt j e2).1; have := HBX.out.be.size; omega
set_option maxHeartbeats 12800000 in
theorem lreply_false (h : Lwo w B b rv lv vs F o) {k : Nat} (hk : k < vs.length) (hinv : InvSh (o.dl k).1 (o.dl k).2 (o.sl k)) (hcap : (o.dl k).2 ≤ 16) (hB : B ≤ w.heap.size) (tf tt top tk tz : Int) {p : Ry} {o' : On} (HS : Hid (o.serve ⟨tf, tt, false, (k : Int), top, tk, tz⟩ o.ln = (p, o'))) : Calls Try.prog 28 #[.pointer (some ⟨b, 0, none⟩), .agg #[.int .i64 tf, .int .i64 tt, .bool false, .int .i64 k, .int .i64 top, .int .u64 tk, .int .u64 tz]] w fun e w' => ∃ u, e = .returned (rpV p u) ∧ ∃ F', Lwo w' B b rv lv vs F' o' ∧ Nx w w' (footO b rv lv vs.length F) (footO b rv lv vs.length F') ∧ RoPp w' w.heap.size u p.ps ∧ Apt (footO b rv lv vs.length F') (ftV u) := by
  obtain ⟨X, HX, hbx⟩ := bx_new w tf tt false (k : Int) top tk tz
  have HBX := keepG hbx
  have HLW := keepG h
  obtain ⟨n, HN⟩ : ∃ n, Hid (w.heap.size = n) := ⟨_, rfl⟩
  have HLX := keepG (h.below hbx.be)
  have HLXd := keepG ((h.below hbx.be).below (below_drG (Below.refl X.heap.size X)))
  obtain ⟨g, cap, ev, hg, _⟩ := h.at hk
  subst ev
  obtain ⟨v, HV⟩ : ∃ v, Hid (vs.getD k .nilIface = v) := ⟨_, rfl⟩
  have HSS : Hid (∀ (wx : World) (F1 : Nat → Ft) (o1 : On), Lwo wx B b (.slice (some ⟨g, 0, none⟩) vs.length cap) lv vs F1 o1 → Hp wx (n + 2) 43 [.int .i64 k, .int .i64 top, .int .u64 tk, .int .u64 tz] → wx.cell? ⟨b, 2, none⟩ = some (.slice (some ⟨g, 0, none⟩) vs.length cap) ∧ wx.cell? ⟨n + 2, 0, none⟩ = some (.int .i64 k) ∧ wx.cell? ⟨g, k, none⟩ = some v ∧ wx.cell? ⟨n + 2, 1, none⟩ = some (.int .i64 top) ∧ wx.cell? ⟨n + 2, 2, none⟩ = some (.int .u64 tk) ∧ wx.cell? ⟨n + 2, 3, none⟩ = some (.int .u64 tz)) := by
    intro wx F1 o1 hl hp
    obtain ⟨g', cap', ev, _, d0⟩ := hl.at hk
    simp only [Value.slice.injEq, Option.some.injEq, Addr.mk.injEq, true_and, and_true] at ev
    obtain ⟨rfl, rfl⟩ := ev
    rw [HV.out] at d0
    exact ⟨hl.low.2.2.1, hp.cell (j := 0) rfl, d0, hp.cell (j := 1) rfl, hp.cell (j := 2) rfl, hp.cell (j := 3) rfl⟩
  rw [HN.out] at hg
  have e2 : X.cell? ⟨n, 2, none⟩ = some (.bool false) := by rw [← HN.out]; exact hbx.q.cell (j := 2) rfl
  have HPI : Hid (Hp X (n + 2) 43 [.int .i64 k, .int .i64 top, .int .u64 tk, .int .u64 tz]) := by rw [← HN.out]; exact hbx.i
  have HPR : Hid (Hp X (n + 3) 50 (rpC ⟨(⟨tf, tt, false, (k : Int), top, tk, tz⟩ : Rt), Rq.none, []⟩ (.slice none 0 0))) := by rw [← HN.out]; exact hbx.r
  have HPA : Hid (Hp X (n + 1) 50 (rpC Ry.nil (.slice none 0 0))) := by rw [← HN.out]; exact hbx.a
  obtain ⟨s0, s1, s2, s3, s4, s5⟩ := HSS.out X F o HLX.out HPI.out
  have hkI : (k : Int) < vs.length := by omega
  have HK := keepG hk
  have hs := HS.out
  obtain ⟨x, t5, HDD⟩ : ∃ x t5, Hid (doSh (o.dl k).1 (o.dl k).2 (o.sl k) top tk tz = (x, t5)) := ⟨_, _, rfl⟩
  obtain ⟨xE, xf, xv, xo, xk, xu⟩ := x
  rw [show o.serve (⟨tf, tt, false, (k : Int), top, tk, tz⟩ : Rt) o.ln = ((⟨(⟨tf, tt, false, (k : Int), top, tk, tz⟩ : Rt), ⟨xE, xf, xv, xo, xk, xu⟩, []⟩ : Ry), (⟨o.sh, o.n, o.ds, o.st.set k t5, o.ln, o.over⟩ : On)) by
    have hd : doSh (o.df (k : Int)).1 (o.df (k : Int)).2 (o.sr (k : Int)) top tk tz = (⟨xE, xf, xv, xo, xk, xu⟩, t5) := HDD.out
    unfold On.serve
    simp only [Bool.false_eq_true, if_false, hd]
    rfl] at hs
  injection hs with h1 h2
  subst h1 h2
  have hBX : B ≤ X.drew.heap.size := Nat.le_trans hB hbx.be.size
  obtain ⟨ff, fx, hvia, hcall⟩ := (HLXd.out.fam.ob k hk).do_any top tk tz hinv hcap hBX HDD
  obtain ⟨t, u, ev, hmeth, hcf⟩ := hvia
  rw [HV.out] at ev
  subst ev
  have HCD := keepG hcall
  have HFN : Hid (∀ j, F k j → j < w.heap.size) := h.fam.li k hk
  clear h hbx hcall hinv hcap hk hB HS hBX
  go_enter Try.func28, Try.ntmps28
  go_wp2_with (first | (rw [HX.out, HN.out]) | (refine wp_region_held_drew (S := fun w' => w'.cell? ⟨b, 2, none⟩ = some (.slice (some ⟨g, 0, none⟩) vs.length cap) ∧ w'.cell? ⟨n + 2, 0, none⟩ = some (.int .i64 k) ∧ w'.cell? ⟨g, k, none⟩ = some (.iface t u) ∧ w'.cell? ⟨n + 2, 1, none⟩ = some (.int .i64 top) ∧ w'.cell? ⟨n + 2, 2, none⟩ = some (.int .u64 tk) ∧ w'.cell? ⟨n + 2, 3, none⟩ = some (.int .u64 tz)) (by kernel_rfl) ⟨s0, s1, s2, s3, s4, s5⟩ (fun hHeld => ?_)))
  refine tkGo [0, 1, 2, 3, 4, 5, 6, 7, 8, 9, 10, 11, 12, 13] ?_
  repeat (refine tkOne (v := ?_) rfl (by kernel_rfl) (by kernel_rfl) (by kernel_rfl) (fun _ _ _ h => h) (by assumption) (by rfl) ?_ ?_; rotate_left; (intro wy hSw; (try dsimp only at hSw); go_simp; (first | done | with_reducible rfl)); try simp only [Act.put, List.getElem_toArray, List.getElem_cons_zero, List.getElem_cons_succ, List.setIfInBounds_toArray, List.set_cons_zero, List.set_cons_succ])
  refine tkEnd ?_
  refine wpAnyH_ready (rs := [14]) (by kernel_rfl) (by simp) ?_
  refine AllReadyH.cons rfl (fun KK hK => ?_) AllReadyH.nil
  rw [if_pos (by rfl)]
  go_simp
  refine HCD.out.mono ?_
  rintro e w6 ⟨rfl, F5, hS5, hn5⟩
  have HGO := keepG (HLXd.out.go HK.out hS5 hn5)
  have hcx : Chg X w6 (F k) := ⟨hn5.chg.os, hn5.chg.tape, hn5.chg.output, hn5.chg.size, hn5.chg.block⟩
  have HP6 := keepG (HPR.out.chg hcx (fun e => by have := HFN.out _ e; have := HN.out; omega))
  have HA6 := keepG (HPA.out.chg hcx (fun e => by have := HFN.out _ e; have := HN.out; omega))
  have HI6 := keepG (HPI.out.chg hcx (fun e => by have := HFN.out _ e; have := HN.out; omega))
  have HN5 := keepG hcx
  clear hS5 hn5 hcx
  dsimp only [resG]
  go_simp
  refine hK.out _ _ (HSS.out w6 _ _ HGO.out.1 HI6.out) (fun hHeld => ?_)
  clear hK KK
  try simp only [Act.put, List.getElem_toArray, List.getElem_cons_zero, List.getElem_cons_succ, List.setIfInBounds_toArray, List.set_cons_zero, List.set_cons_succ]
  have y7 := HP6.out.cell (j := 7) rfl
  have f7 := HP6.out.frozen 7
  have y8 := HP6.out.cell (j := 8) rfl
  have f8 := HP6.out.frozen 8
  have y9 := HP6.out.cell (j := 9) rfl
  have f9 := HP6.out.frozen 9
  have y10 := HP6.out.cell (j := 10) rfl
  have f10 := HP6.out.frozen 10
  have y11 := HP6.out.cell (j := 11) rfl
  have f11 := HP6.out.frozen 11
  have y12 := HP6.out.cell (j := 12) rfl
  have f12 := HP6.out.frozen 12
  have hft : ∀ j, footO b (.slice (some ⟨g, 0, none⟩) vs.length cap) lv vs.length (upd F k F5) j → j < w.heap.size ∨ X.heap.size ≤ j := fun j hj => by
    rcases HGO.out.2.new j hj with g1 | g1
    · exact .inl (HLW.out.lies j g1)
    · exact .inr g1
  have HFT := keepG hft
  have hxz : X.heap.size = n + 4 := by have := HBX.out.sz; have := HN.out; omega
  obtain ⟨W7, HW7, HP7, HA7, HI7, HL7, HC7⟩ : ∃ W7, Hid (((((((w6.setCell ⟨n + 3, 7, none⟩ (.int .i64 xE)).setCell ⟨n + 3, 8, none⟩ (.bool xf)).setCell ⟨n + 3, 9, none⟩ (.int .u64 xv)).setCell ⟨n + 3, 10, none⟩ (.bool xo)).setCell ⟨n + 3, 11, none⟩ (.int .u64 xk)).setCell ⟨n + 3, 12, none⟩ (.int .u64 xu)) = W7) ∧ Hid (Hp W7 (n + 3) 50 (rpC (⟨(⟨tf, tt, false, (k : Int), top, tk, tz⟩ : Rt), ⟨xE, xf, xv, xo, xk, xu⟩, []⟩ : Ry) (.slice none 0 0))) ∧ Hid (Hp W7 (n + 1) 50 (rpC Ry.nil (.slice none 0 0))) ∧ Hid (Hp W7 (n + 2) 43 [.int .i64 k, .int .i64 top, .int .u64 tk, .int .u64 tz]) ∧ Hid (Lwo W7 B b (.slice (some ⟨g, 0, none⟩) vs.length cap) lv vs (upd F k F5) (⟨o.sh, o.n, o.ds, o.st.set k t5, o.ln, o.over⟩ : On)) ∧ Hid (Chg w6 W7 (fun j => j = n + 3)) := ⟨_, rfl, HP6.out.sets [.int .i64 xE, .bool xf, .int .u64 xv, .bool xo, .int .u64 xk, .int .u64 xu] 7, HA6.out.fars (show n + 1 ≠ n + 3 by omega) [.int .i64 xE, .bool xf, .int .u64 xv, .bool xo, .int .u64 xk, .int .u64 xu] 7, HI6.out.fars (show n + 2 ≠ n + 3 by omega) [.int .i64 xE, .bool xf, .int .u64 xv, .bool xo, .int .u64 xk, .int .u64 xu] 7, HGO.out.1.chg (Chg.sets w6 (n + 3) 7 [.int .i64 xE, .bool xf, .int .u64 xv, .bool xo, .int .u64 xk, .int .u64 xu]) (fun j e1 e2 => by have e3 : j = n + 3 := e1; have := HN.out; rcases HFT.out j e2 with g1 | g1 <;> omega), Chg.sets w6 (n + 3) 7 [.int .i64 xE, .bool xf, .int .u64 xv, .bool xo, .int .u64 xk, .int .u64 xu]⟩
  clear hft
  refine tkGo [15] ?_
  repeat (refine tkOne (v := ?_) rfl (by kernel_rfl) (by kernel_rfl) (by kernel_rfl) (fun _ _ _ h => h) (by assumption) (by rfl) ?_ ?_; rotate_left; (intro wy hSw; (try dsimp only at hSw); go_simp; (first | done | with_reducible rfl)); try simp only [Act.put, List.getElem_toArray, List.getElem_cons_zero, List.getElem_cons_succ, List.setIfInBounds_toArray, List.set_cons_zero, List.set_cons_succ])
  refine tkEnd ?_
  refine wpAnyH_ready (rs := [16]) (by kernel_rfl) (by simp) ?_
  refine AllReadyH.cons rfl (fun KK hK => ?_) AllReadyH.nil
  rw [if_pos (by rfl)]
  go_simp
  rw [HW7.out]
  refine hK.out _ _ (HSS.out W7 _ _ HL7.out HI7.out) (fun hHeld => ?_)
  clear hK KK
  try simp only [Act.put, List.getElem_toArray, List.getElem_cons_zero, List.getElem_cons_succ, List.setIfInBounds_toArray, List.set_cons_zero, List.set_cons_succ]
  refine wpAnyH_done (by kernel_rfl) ?_ _
  clear hHeld y7 y8 y9 y10 y11 y12 f7 f8 f9 f10 f11 f12
  obtain ⟨⟨x0, x1, x2, x3, x4, x5, x6⟩, x7, x8, x9, x10, x11, x12, x13⟩ := rp_cellsL HP7.out
  obtain ⟨⟨z0, z1, z2, z3, z4, z5, z6⟩, z7, z8, z9, z10, z11, z12, z13⟩ := rp_cellsL HA7.out
  obtain ⟨⟨y0, y1, y2, y3, y4, y5, y6⟩, y7, y8, y9, y10, y11, y12, y14⟩ := hp_frL HA7.out
  clear s0 s1 s2 s3 s4 s5 e2
  go_wp2
  have HCA := keepG (Chg.sets W7 (n + 1) 0 (rpC (⟨(⟨tf, tt, false, (k : Int), top, tk, tz⟩ : Rt), ⟨xE, xf, xv, xo, xk, xu⟩, []⟩ : Ry) (.slice none 0 0)))
  refine rp_ret1 rfl rfl (HA7.out.sets (rpC (⟨(⟨tf, tt, false, (k : Int), top, tk, tz⟩ : Rt), ⟨xE, xf, xv, xo, xk, xu⟩, []⟩ : Ry) (.slice none 0 0)) 0) ⟨_, rfl, upd F k F5, ?_, ⟨?_, fun j hj => ?_⟩, World.ownsRow_nil _ _ _ _, fun j e1 e2 => by cases e2⟩
  · exact HL7.out.chg HCA.out (fun j e1 e2 => by have e3 : j = n + 1 := e1; have := HN.out; rcases HFT.out j e2 with g1 | g1 <;> omega)
  · exact (((Chg.of_below HBX.out.be).trans (HN5.out.mono (T := footO b (.slice (some ⟨g, 0, none⟩) vs.length cap) lv vs.length F) (fun j e => .inr (.inr ⟨k, HK.out, e⟩))) (fun _ _ e => e)).trans HC7.out (fun j h1 e => by have e3 : j = n + 3 := e; have := HN.out; omega)).trans HCA.out (fun j h1 e => by have e3 : j = n + 1 := e; have := HN.out; omega)
  · rcases HGO.out.2.new j hj with g1 | g1
    · exact .inl g1
    · exact .inr (Nat.le_trans HBX.out.be.size g1)
end
end Go.Proofs.Ytpbfgebecgikjaa
