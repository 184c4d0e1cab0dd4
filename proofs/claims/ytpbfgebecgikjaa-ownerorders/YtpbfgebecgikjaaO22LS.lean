
/-
  The landed owner of layer 22: Step. Condition: it lies where the pointer says.
-/
import Derived.Test.YtpbfgebecgikjaaO22LC
namespace Go.Proofs.Ytpbfgebecgikjaa
open Go.RowKit
set_option linter.unusedVariables false
set_option linter.unusedSimpArgs false
set_option maxRecDepth 100000
theorem sizeRt (w : World) : (Go.sizeOf 45).run Try.prog w = .ok 7 w := by kernel_rfl
section
variable {w w' w2 : World} {B b : Nat} {rv lv lv2 : Value} {vs : List Value} {F : Nat → Ft} {o o' : On} {l : List Rt}
theorem lreply (h : Lwo w B b rv lv vs F o) {k : Nat} (hk : k < vs.length) (hinv : InvSh (o.dl k).1 (o.dl k).2 (o.sl k)) (hcap : (o.dl k).2 ≤ 16) (hB : B ≤ w.heap.size) (tf tt : Int) (wk : Bool) (top tk tz : Int) {p : Ry} {o' : On} (HS : Hid (o.serve ⟨tf, tt, wk, (k : Int), top, tk, tz⟩ o.ln = (p, o'))) : Calls Try.prog 28 #[.pointer (some ⟨b, 0, none⟩), .agg #[.int .i64 tf, .int .i64 tt, .bool wk, .int .i64 k, .int .i64 top, .int .u64 tk, .int .u64 tz]] w fun e w' => ∃ u, e = .returned (rpV p u) ∧ ∃ F', Lwo w' B b rv lv vs F' o' ∧ Nx w w' (footO b rv lv vs.length F) (footO b rv lv vs.length F') ∧ RoPp w' w.heap.size u p.ps ∧ Apt (footO b rv lv vs.length F') (ftV u) := by
  cases wk with
  | true => exact lreply_true h hk hinv hcap hB tf tt top tk tz HS
  | false => exact lreply_false h hk hinv hcap hB tf tt top tk tz HS
set_option maxHeartbeats 12800000 in
theorem lstep_none (h : Lwo w B b rv lv vs F o) (hl : o.ln = []) : Calls Try.prog 13 #[.pointer (some ⟨b, 0, none⟩)] w fun e w' => e = .returned (.tuple #[rpV Ry.nil (.slice none 0 0), .bool false]) ∧ Lwo w' B b rv lv vs F o ∧ Below w.heap.size w w' := by
  obtain ⟨X, HX, HPX, HBX⟩ : ∃ X, Hid (w.alloc (.cells #[.int .i64 0, .int .i64 0, .bool false, .int .i64 0, .int .i64 0, .int .u64 0, .int .u64 0, .int .i64 0, .bool false, .int .u64 0, .bool false, .int .u64 0, .int .u64 0, .slice none 0 0] 50) = X) ∧ Hid (Hp X w.heap.size 50 (rpC Ry.nil (.slice none 0 0))) ∧ Hid (Below w.heap.size w X) := ⟨_, rfl, Hp.new w (rpC Ry.nil (.slice none 0 0)) _, below_allocG _ _⟩
  have HD := keepG (h.below HBX.out)
  have HDW := keepG h
  obtain ⟨-, -, -, c3, -⟩ := HD.out.low
  obtain ⟨a, cap, ev, -, -⟩ := h.ln.shape
  rw [hl] at ev
  obtain rfl : lv = .slice a 0 cap := ev
  obtain ⟨nx, HNX⟩ : ∃ nx, Hid (w.heap.size = nx) := ⟨_, rfl⟩
  have HPN := HPX
  rw [HNX.out] at HPN
  obtain ⟨⟨x0, x1, x2, x3, x4, x5, x6⟩, x7, x8, x9, x10, x11, x12, x13⟩ := rp_cellsL HPN.out
  obtain ⟨⟨y0, y1, y2, y3, y4, y5, y6⟩, y7, y8, y9, y10, y11, y12, y13⟩ := hp_frL HPN.out
  have hnx : w.heap.size ≤ nx := Nat.le_of_eq HNX.out
  clear h hl
  go_enter Try.func13, Try.ntmps13
  go_wp2_with (rw [HX.out, HNX.out])
  exact rp_ret rfl rfl rfl (HPN.out.sets (rpC Ry.nil (.slice none 0 0)) 0) ⟨rfl, HD.out.chg (Chg.sets X nx 0 (rpC Ry.nil (.slice none 0 0))) (fun k e1 e2 => by have := HDW.out.lies k e2; have e3 : k = nx := e1; omega), HBX.out.trans (grown_to_below (grown_sets nx (rpC Ry.nil (.slice none 0 0)) X 0) hnx HBX.out.size)⟩
set_option maxHeartbeats 12800000 in
theorem lstep_some (h : Lwo w B b rv lv vs F o) (hk : o.Ok) (hB : B ≤ w.heap.size) {q : Rt} {r : List Rt} (hl : o.ln = q :: r) {p : Ry} {o' : On} (HS : Hid (o.serve q r = (p, o'))) : Calls Try.prog 13 #[.pointer (some ⟨b, 0, none⟩)] w fun e w' => ∃ u, e = .returned (.tuple #[rpV p u, .bool true]) ∧ ∃ lv' F', Lwo w' B b rv lv' vs F' o' ∧ Nx w w' (footO b rv lv vs.length F) (footO b rv lv' vs.length F') ∧ RoPp w' w.heap.size u p.ps ∧ Apt (footO b rv lv' vs.length F') (ftV u) := by
  obtain ⟨X, HX, HPX, HBX, HZX⟩ : ∃ X, Hid (w.alloc (.cells #[.int .i64 0, .int .i64 0, .bool false, .int .i64 0, .int .i64 0, .int .u64 0, .int .u64 0, .int .i64 0, .bool false, .int .u64 0, .bool false, .int .u64 0, .int .u64 0, .slice none 0 0] 50) = X) ∧ Hid (Hp X w.heap.size 50 (rpC Ry.nil (.slice none 0 0))) ∧ Hid (Below w.heap.size w X) ∧ Hid (X.heap.size = w.heap.size + 1) := ⟨_, rfl, Hp.new w (rpC Ry.nil (.slice none 0 0)) _, below_allocG _ _, by show _ = _; simp⟩
  have HLW := keepG h
  have HLX := keepG (h.below HBX.out)
  obtain ⟨n, HN⟩ : ∃ n, Hid (w.heap.size = n) := ⟨_, rfl⟩
  rw [HN.out] at HPX
  have htk := hk.line q (by rw [hl]; simp)
  obtain ⟨k, hqm, hks⟩ := On.hasM_nat (On.takes_m htk)
  have hkv : k < vs.length := by rw [h.len]; exact hks
  have hinv := hk.inv k (by rw [← hk.len]; exact hks)
  have hN : o.ln.length = r.length + 1 := by rw [hl]; rfl
  have hwin := HLX.out.ln
  obtain ⟨a, cap, ev, -, -⟩ := h.ln.shape
  subst ev
  obtain ⟨pp, off, ev, hat⟩ := rtAt (hwin.sees rtC_len Rt.nil) (j := 0) (by omega)
  subst ev
  obtain ⟨d0, d1, d2, d3, d4, d5, d6⟩ := hat 0 (by omega) q (by rw [hl]; rfl)
  obtain ⟨tf, tt, wk, tm, top, tk, tz⟩ := q
  simp only at hqm d0 d1 d2 d3 d4 d5 d6
  subst hqm
  simp only [Nat.zero_mul, Nat.add_zero] at d0 d1 d2 d3 d4 d5 d6
  obtain ⟨-, -, -, c3, -⟩ := HLX.out.low
  obtain ⟨Y, HY, HPY, HPQ, HLY, HBY⟩ : ∃ Y, Hid (X.alloc (.cells #[.int .i64 tf, .int .i64 tt, .bool wk, .int .i64 k, .int .i64 top, .int .u64 tk, .int .u64 tz] 45) = Y) ∧ Hid (Hp Y n 50 (rpC Ry.nil (.slice none 0 0))) ∧ Hid (Hp Y (n + 1) 45 (rtC ⟨tf, tt, wk, (k : Int), top, tk, tz⟩)) ∧ Hid (Lwo Y B b rv (.slice (some ⟨pp, off, none⟩) o.ln.length cap) vs F o) ∧ Hid (Below w.heap.size w Y) := ⟨_, rfl, HPX.out.alloc _, by have := Hp.new X (rtC ⟨tf, tt, wk, (k : Int), top, tk, tz⟩) 45; rw [HZX.out, HN.out] at this; exact this, HLX.out.below (below_allocG X _), HBX.out.trans ((below_allocG X _).mono HBX.out.size)⟩
  have hwY := HLY.out.ln
  have e7 : flatG rtC o.ln = rtC ⟨tf, tt, wk, (k : Int), top, tk, tz⟩ ++ flatG rtC r := by rw [hl]; simp [flatG]
  rw [e7] at hwY
  obtain ⟨N, HNN⟩ : ∃ N, Hid (o.ln.length = N) := ⟨_, rfl⟩
  have hNI : ¬ (N : Int) = 0 := by have := HNN.out; omega
  have hNb : ((N : Int) == 0) = false := by simpa using hNI
  have hN0 : (0 : Int) < N := by have := HNN.out; omega
  obtain ⟨v', hcut, hwt, hob⟩ := Win.tail (P := Try.prog) (t := 34) (n := r.length) Try.underlying34 sizeRt (by rw [← hN]; exact hwY) (rtC_len _)
  have hput := HLY.out.put (Chg.refl _ _) hwt (.inl hob)
  obtain ⟨va, vc, ev, -, -⟩ := hwt.shape
  subst ev
  have c3Y := HLY.out.low.2.2.2.1
  have f3Y := HLY.out.hp.frozen 3
  rw [HNN.out] at c3 c3Y hcut
  obtain ⟨Z, HZ, HLZ, HPZ, HQZ, HNZ⟩ : ∃ Z, Hid (Y.setCell ⟨b, 3, none⟩ (.slice va r.length vc) = Z) ∧ Hid (Lwo Z B b rv (.slice va r.length vc) vs F (o.line r)) ∧ Hid (Hp Z n 50 (rpC Ry.nil (.slice none 0 0))) ∧ Hid (Hp Z (n + 1) 45 (rtC ⟨tf, tt, wk, (k : Int), top, tk, tz⟩)) ∧ Hid (Nx w Z (footO b rv (.slice (some ⟨pp, off, none⟩) o.ln.length cap) vs.length F) (footO b rv (.slice va r.length vc) vs.length F)) := by
    have hb := HLW.out.hp.lt
    have hxx := HN.out
    exact ⟨_, rfl, hput.1, HPY.out.far (by omega), HPQ.out.far (by omega), (Nx.below HBY.out).trans hput.2⟩
  have HCR := keepG (lreply HLZ.out hkv (show InvSh (o.dl k).1 (o.dl k).2 (o.sl k) from hinv.1) (show (o.dl k).2 ≤ 16 from hinv.2) (Nat.le_trans hB HNZ.out.chg.size) tf tt wk top tk tz (p := p) (o' := o') HS)
  have HFT : Hid (∀ j, footO b rv (.slice va r.length vc) vs.length F j → j < n) := by
    intro j hj
    rw [← HN.out]
    rcases hj with g | g | g
    · exact HLW.out.lies j (.inl g)
    · exact HLW.out.lies j (.inr (.inl (by rw [← hob]; exact g)))
    · exact HLW.out.lies j (.inr (.inr g))
  have u0 : Z.cell? ⟨n + 1, 0, none⟩ = some (.int .i64 tf) := HQZ.out.cell (j := 0) rfl
  have u1 : Z.cell? ⟨n + 1, 1, none⟩ = some (.int .i64 tt) := HQZ.out.cell (j := 1) rfl
  have u2 : Z.cell? ⟨n + 1, 2, none⟩ = some (.bool wk) := HQZ.out.cell (j := 2) rfl
  have u3 : Z.cell? ⟨n + 1, 3, none⟩ = some (.int .i64 k) := HQZ.out.cell (j := 3) rfl
  have u4 : Z.cell? ⟨n + 1, 4, none⟩ = some (.int .i64 top) := HQZ.out.cell (j := 4) rfl
  have u5 : Z.cell? ⟨n + 1, 5, none⟩ = some (.int .u64 tk) := HQZ.out.cell (j := 5) rfl
  have u6 : Z.cell? ⟨n + 1, 6, none⟩ = some (.int .u64 tz) := HQZ.out.cell (j := 6) rfl
  have HZX2 : Hid (X.heap.size = n + 1) := by show _ = _; rw [HZX.out, HN.out]
  obtain ⟨⟨pf, pt, pwk, pm, pop, pk, pv⟩, ⟨xE, xf, xv, xo, xk, xu⟩, pps⟩ := p
  clear h hk hB hl HS htk hks hkv hinv hN hwin hat hwY e7 hwt hob hput
  go_enter Try.func13, Try.ntmps13
  go_wp2_with (first
    | (go_at_call 28; go_must (refine HCR.out.mono ?_); rintro e w6 ⟨u, rfl, F6, hl6, hn6, hr6, ha6⟩; go_must (obtain ⟨ua, uc, ev⟩ := own_shape hr6; subst ev; have HL6 := keepG hl6; have HN6 := keepG hn6; have HR6 := keepG hr6; have HA6 := keepG ha6; have HP6 := keepG (HPZ.out.chg hn6.chg (fun e => by have := HFT.out _ e; omega)); clear hl6 hn6 hr6 ha6; obtain ⟨⟨x0, x1, x2, x3, x4, x5, x6⟩, x7, x8, x9, x10, x11, x12, x13⟩ := rp_cellsL HP6.out; obtain ⟨⟨y0, y1, y2, y3, y4, y5, y6⟩, y7, y8, y9, y10, y11, y12, y13⟩ := hp_frL HP6.out; dsimp only [rpV, rpC] at *))
    | (rw [HX.out, HN.out])
    | (rw [HY.out, HZX2.out])
    | (rw [HZ.out]))
  have HCA := keepG (Chg.sets w6 n 0 (rpC (⟨⟨pf, pt, pwk, pm, pop, pk, pv⟩, ⟨xE, xf, xv, xo, xk, xu⟩, pps⟩ : Ry) (.slice ua pps.length uc)))
  refine rp_ret rfl rfl rfl (HP6.out.sets (rpC (⟨⟨pf, pt, pwk, pm, pop, pk, pv⟩, ⟨xE, xf, xv, xo, xk, xu⟩, pps⟩ : Ry) (.slice ua pps.length uc)) 0) ⟨_, rfl, _, F6, ?_, ⟨?_, fun j hj => ?_⟩, ?_, HA6.out⟩
  · refine HL6.out.chg HCA.out (fun j e1 e2 => ?_)
    have e3 : j = n := e1
    have hz := HPZ.out.lt
    rcases HN6.out.new j e2 with g | g
    · have := HFT.out j g; omega
    · omega
  · exact (HNZ.out.trans HN6.out).chg.trans HCA.out (fun j h1 e => by have e3 : j = n := e; have := HN.out; omega)
  · exact (HNZ.out.trans HN6.out).new j hj
  · exact own_lowG (own_chg HR6.out HCA.out (fun j hj e => by have := (HR6.out.lt j hj).1; have e3 : j = n := e; have := HPZ.out.lt; omega)) HNZ.out.chg.size
end
end Go.Proofs.Ytpbfgebecgikjaa
