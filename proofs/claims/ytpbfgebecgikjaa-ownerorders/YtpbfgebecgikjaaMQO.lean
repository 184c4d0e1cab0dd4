/-
  Texts joined: O22LE, W22Kit, W22Aw, W22Two, W22Or, W22Op, W22Oo.
-/
import Derived.Test.YtpbfgebecgikjaaO22LB
import Derived.Test.YtpbfgebecgikjaaO22LS
import Derived.Test.YtpbfgebecgikjaaO22LN
import Derived.Test.YtpbfgebecgikjaaGOpenW
import Derived.Test.YtpbfgebecgikjaaTk
import Derived.Test.YtpbfgebecgikjaaW15Via
import Derived.Test.YtpbfgebecgikjaaP12Of
namespace Go.Proofs.Ytpbfgebecgikjaa
open Go.RowKit
set_option linter.unusedVariables false
def Lwn (w : World) (B b : Nat) (F : Ft) (o : On) : Prop := ∃ rv lv vs Fs, Lwo w B b rv lv vs Fs o ∧ F = footO b rv lv vs.length Fs
theorem Lwn.lies {w : World} {B b : Nat} {F : Ft} {o : On} (h : Lwn w B b F o) : Lies w F := by
  obtain ⟨rv, lv, vs, Fs, h, rfl⟩ := h
  exact h.lies
theorem Lwn.keeps {w w' : World} {B b : Nat} {F G : Ft} {o : On} (h : Lwn w B b F o) (hc : Chg w w' G) (ha : Apt G F) : Lwn w' B b F o := by
  obtain ⟨rv, lv, vs, Fs, h, rfl⟩ := h
  exact ⟨rv, lv, vs, Fs, h.chg hc ha, rfl⟩
theorem lonew_ok (sh n : Int) {v : Value} {es : List (Int × Int)} {o : On} (w : World) (hs : SeesG dfC 2 (0, 0) w v es) (HN : Hid (newO sh n es = some o)) : Calls Try.prog 8 #[.int .i64 sh, .int .i64 n, v] w fun e w' => ∃ b F, e = .returned (.tuple #[.pointer (some ⟨b, 0, none⟩), .int .i64 0]) ∧ Lwn w' w.heap.size b F o ∧ Since w F ∧ Below w.heap.size w w' := by
  refine (lonew_lwo sh n w hs HN).mono ?_
  rintro e w' ⟨b, vm, ps, F, rfl, h, hS, hb⟩
  exact ⟨b, _, rfl, ⟨vm, _, ps, F, h, rfl⟩, hS, hb⟩
theorem Lwn.send {w : World} {B b : Nat} {F : Ft} {o o' : On} (h : Lwn w B b F o) (hk : o.Ok) (hB : B ≤ w.heap.size) {u : Value} {qs : List Rt} (hz : Hid ((o.ln.length + qs.length) * 56 ≤ 140737488355328)) (hs : SeesG rtC 7 Rt.nil w u qs) (hwf : ∀ q ∈ qs, q.wf) (hap : qs ≠ [] → Apt F (ftV u)) {E : Int} (HQ : Hid (o.send qs = (E, o'))) : Calls Try.prog 10 #[.pointer (some ⟨b, 0, none⟩), u] w fun e w' => e = .returned (.int .i64 E) ∧ ∃ F', Lwn w' B b F' o' ∧ Nx w w' F F' := by
  obtain ⟨rv, lv, vs, Fs, h, rfl⟩ := h
  refine (lsend h hk.n1 hB hz hs hwf HQ).mono ?_
  rintro e w' ⟨rfl, lv', h', hn⟩
  exact ⟨rfl, _, ⟨rv, lv', vs, Fs, h', rfl⟩, hn⟩
theorem Lwn.step {w : World} {B b : Nat} {F : Ft} {o o' : On} (h : Lwn w B b F o) (hk : o.Ok) (hB : B ≤ w.heap.size) (hz : Hid (o.ln.length * 56 ≤ 140737488355328)) {p : Ry} {r : Bool} (HQ : Hid (o.step = (p, r, o'))) : Calls Try.prog 13 #[.pointer (some ⟨b, 0, none⟩)] w fun e w' => ∃ u, e = .returned (.tuple #[rpV p u, .bool r]) ∧ ∃ F', Lwn w' B b F' o' ∧ Nx w w' F F' ∧ RoPp w' w.heap.size u p.ps ∧ Apt F' (ftV u) := by
  obtain ⟨rv, lv, vs, Fs, h, rfl⟩ := h
  have hq := HQ.out
  unfold On.step at hq
  split at hq
  · rename_i hl
    injection hq with q1 q2
    injection q2 with q2 q3
    subst q1 q2 q3
    refine (lstep_none h hl).mono ?_
    rintro e w' ⟨rfl, h', hb⟩
    exact ⟨_, rfl, _, ⟨rv, lv, vs, Fs, h', rfl⟩, Nx.below hb, World.ownsRow_nil _ _ _ _, fun j e1 e2 => by cases e2⟩
  · rename_i q rr hl
    injection hq with q1 q2
    injection q2 with q2 q3
    subst q2
    refine (lstep_some h hk hB hl (show Hid (o.serve q rr = (p, o')) from Prod.ext q1 q3)).mono ?_
    rintro e w' ⟨u, rfl, lv', F', h', hn, hr, ha⟩
    exact ⟨u, rfl, _, ⟨rv, lv', vs, F', h', rfl⟩, hn, hr, ha⟩
theorem Lwn.waiting {w : World} {B b : Nat} {F : Ft} {o : On} (h : Lwn w B b F o) (hz : Hid (o.ln.length * 56 ≤ 140737488355328)) : Calls Try.prog 21 #[.pointer (some ⟨b, 0, none⟩)] w fun e w' => ∃ u, e = .returned u ∧ RoRt w' w.heap.size u o.ln ∧ Below w.heap.size w w' := by
  obtain ⟨rv, lv, vs, Fs, h, rfl⟩ := h
  exact lwaiting h hz
theorem Lwn.endd {w : World} {B b : Nat} {F : Ft} {o o' : On} (h : Lwn w B b F o) (hB : B ≤ w.heap.size) {E : Int} (HQ : Hid (o.end = (E, o'))) : Calls Try.prog 16 #[.pointer (some ⟨b, 0, none⟩)] w fun e w' => e = .returned (.int .i64 E) ∧ ∃ F', Lwn w' B b F' o' ∧ Nx w w' F F' := by
  obtain ⟨rv, lv, vs, Fs, h, rfl⟩ := h
  refine (lend h HQ).mono ?_
  rintro e w' ⟨rfl, h', hc⟩
  exact ⟨rfl, _, ⟨rv, lv, vs, Fs, h', rfl⟩, hc.mono (fun k e => .inl (.inl e)), fun k hk => .inl hk⟩
theorem Lwn.ended {w : World} {B b : Nat} {F : Ft} {o : On} (h : Lwn w B b F o) : Calls Try.prog 22 #[.pointer (some ⟨b, 0, none⟩)] w fun e w' => e = .returned (.bool o.over) ∧ w = w' := by
  obtain ⟨rv, lv, vs, Fs, h, rfl⟩ := h
  exact lended h
theorem Lwn.pairs {w : World} {B b : Nat} {F : Ft} {o : On} (h : Lwn w B b F o) (hk : o.Ok) (m : Int) {E : Int} {ps : List Pp} (HQ : Hid ((if o.hasM m = true then (0, (o.sr m).1) else (2, [])) = (E, ps))) : Calls Try.prog 18 #[.pointer (some ⟨b, 0, none⟩), .int .i64 m] w fun e w' => ∃ u, e = .returned (.tuple #[u, .int .i64 E]) ∧ RoPp w' w.heap.size u ps ∧ Below w.heap.size w w' := by
  obtain ⟨rv, lv, vs, Fs, h, rfl⟩ := h
  exact lpairs h hk m HQ
end Go.Proofs.Ytpbfgebecgikjaa
namespace Go.Proofs.Ytpbfgebecgikjaa
open Go.ChangeShapes Go.WideShapes Go.ChangeAt Go.RowKit
set_option linter.unusedVariables false
set_option linter.unusedSimpArgs false
set_option maxRecDepth 100000

theorem dfC_len (e : Int × Int) : (dfC e).length = 2 := rfl
theorem df_cells {H : Type} {enc : TypeId × Value → H} {W : World} {fuel : Nat} {cs : List Value} {x : DataW H × List MemPlace}
    (h : DataW.trod enc Try.prog W 0 (fun _ => true) true fuel 74 cs = some x) : ∃ e : Int × Int, cs = dfC e ∧ True ∧ ((x.1.weights Try.prog 74).all (· ≤ reachBytes) = true → True) := by
  obtain ⟨xs, n, rfl, hx, hl, hlen, hf⟩ := DataW.trod_struct Try.underlying74 h
  have l5 : cs.length = 2 := by rw [hl]; kernel_rfl
  have u2 : Try.prog.cellsOf 3 = 1 := by kernel_rfl
  have u3 : Try.prog.cellsOf 72 = 1 := by kernel_rfl
  match cs, l5, xs, hlen, hf with
  | [c0, c1], _, [x0, x1], _, hf =>
    have h0 : DataW.trod enc Try.prog W 0 (fun _ => true) true n 72 (([c0, c1].drop 0).take (Try.prog.cellsOf 72)) = some x0 := hf 0 _ rfl
    have h1 : DataW.trod enc Try.prog W 0 (fun _ => true) true n 3 (([c0, c1].drop 1).take (Try.prog.cellsOf 3)) = some x1 := hf 1 _ rfl
    rw [u3] at h0
    rw [u2] at h1
    obtain ⟨a, e0, y0, g0⟩ := DataW.trod_int Try.underlying72 h0
    obtain ⟨b, e1, y1, g1⟩ := DataW.trod_int Try.underlying3 h1
    simp at e0 e1
    subst e0 e1
    exact ⟨(a, b), rfl, trivial, fun _ => trivial⟩
theorem wf_u64k {k : Int} (h : (Lit.int .u64 k).wf = true) : 0 ≤ k ∧ k < 18446744073709551616 := by
  simp [Lit.wf, IntKind.min, IntKind.max, IntKind.signed, IntKind.bits] at h
  omega
theorem rt_cells {H : Type} {enc : TypeId × Value → H} {W : World} {fuel : Nat} {cs : List Value} {x : DataW H × List MemPlace}
    (h : DataW.trod enc Try.prog W 0 (fun _ => true) true fuel 45 cs = some x) : ∃ q : Rt, cs = rtC q ∧ q.wf ∧ ((x.1.weights Try.prog 45).all (· ≤ reachBytes) = true → True) := by
  obtain ⟨xs, n, rfl, hx, hl, hlen, hf⟩ := DataW.trod_struct Try.underlying45 h
  have l5 : cs.length = 7 := by rw [hl]; kernel_rfl
  have u2 : Try.prog.cellsOf 3 = 1 := by kernel_rfl
  have u3 : Try.prog.cellsOf 4 = 1 := by kernel_rfl
  have u4 : Try.prog.cellsOf 43 = 4 := by kernel_rfl
  have u5 : Try.prog.cellsOf 40 = 1 := by kernel_rfl
  have u6 : Try.prog.cellsOf 41 = 1 := by kernel_rfl
  match cs, l5, xs, hlen, hf with
  | [c0, c1, c2, c3, c4, c5, c6], _, [x0, x1, x2, x3], _, hf =>
    have h0 : DataW.trod enc Try.prog W 0 (fun _ => true) true n 3 (([c0, c1, c2, c3, c4, c5, c6].drop 0).take (Try.prog.cellsOf 3)) = some x0 := hf 0 _ rfl
    have h1 : DataW.trod enc Try.prog W 0 (fun _ => true) true n 3 (([c0, c1, c2, c3, c4, c5, c6].drop 1).take (Try.prog.cellsOf 3)) = some x1 := hf 1 _ rfl
    have h2 : DataW.trod enc Try.prog W 0 (fun _ => true) true n 4 (([c0, c1, c2, c3, c4, c5, c6].drop 2).take (Try.prog.cellsOf 4)) = some x2 := hf 2 _ rfl
    have h3 : DataW.trod enc Try.prog W 0 (fun _ => true) true n 43 (([c0, c1, c2, c3, c4, c5, c6].drop 3).take (Try.prog.cellsOf 43)) = some x3 := hf 3 _ rfl
    rw [u2] at h0 h1
    rw [u3] at h2
    rw [u4] at h3
    have h3 : DataW.trod enc Try.prog W 0 (fun _ => true) true n 43 [c3, c4, c5, c6] = some x3 := h3
    obtain ⟨y0, e0, z0, _⟩ := DataW.trod_int Try.underlying3 h0
    obtain ⟨y1, e1, z1, _⟩ := DataW.trod_int Try.underlying3 h1
    obtain ⟨y2, e2, _⟩ := DataW.trod_bool Try.underlying4 h2
    simp at e0 e1 e2
    subst e0 e1 e2
    obtain ⟨ys, m, hx', hy, hl2, hlen2, hf2⟩ := DataW.trod_struct Try.underlying43 h3
    match ys, hlen2, hf2 with
    | [i0, i1, i2, i3], _, hf2 =>
      have k0 : DataW.trod enc Try.prog W 0 (fun _ => true) true m 3 (([c3, c4, c5, c6].drop 0).take (Try.prog.cellsOf 3)) = some i0 := hf2 0 _ rfl
      have k1 : DataW.trod enc Try.prog W 0 (fun _ => true) true m 40 (([c3, c4, c5, c6].drop 1).take (Try.prog.cellsOf 40)) = some i1 := hf2 1 _ rfl
      have k2 : DataW.trod enc Try.prog W 0 (fun _ => true) true m 41 (([c3, c4, c5, c6].drop 2).take (Try.prog.cellsOf 41)) = some i2 := hf2 2 _ rfl
      have k3 : DataW.trod enc Try.prog W 0 (fun _ => true) true m 41 (([c3, c4, c5, c6].drop 3).take (Try.prog.cellsOf 41)) = some i3 := hf2 3 _ rfl
      rw [u2] at k0
      rw [u5] at k1
      rw [u6] at k2 k3
      obtain ⟨m0, d0, _, _⟩ := DataW.trod_int Try.underlying3 k0
      obtain ⟨m1, d1, _, _⟩ := DataW.trod_int Try.underlying40 k1
      obtain ⟨m2, d2, _, g2⟩ := DataW.trod_int Try.underlying41 k2
      obtain ⟨m3, d3, _, _⟩ := DataW.trod_int Try.underlying41 k3
      simp at d0 d1 d2 d3
      subst d0 d1 d2 d3
      exact ⟨⟨y0, y1, y2, m0, m1, m2, m3⟩, rfl, wf_u64k g2, fun _ => trivial⟩
/-- Requests that were handed in. -/
structure Rqs (w0 : World) (v : Value) (qs : List Rt) : Prop where
  sees : SeesG rtC 7 Rt.nil w0 v qs
  wf : ∀ q ∈ qs, q.wf
theorem opens_Rt {H : Type} {enc : TypeId × Value → H} {W : World} {base : Nat} {v : Value} {d : DataW H} {p : List MemPlace}
    (hok : Value.okWide Try.prog W .any base 34 v) (h : DataW.Trod enc Try.prog W 0 (fun _ => true) true 34 v d p) :
    ∃ xs, SeesG rtC 7 Rt.nil W v xs ∧ (∀ x ∈ xs, x.wf) ∧ ((d.weights Try.prog 34).all (· ≤ reachBytes) = true → xs.length * 56 ≤ 140737488351232 ∧ ∀ x ∈ xs, True) :=
  opensGW Rt.nil (R := Rt.wf) (Q := fun _ => True) Try.underlying34 (by kernel_rfl) (by decide) rtC_len (by kernel_rfl) rt_cells hok h
/-- A shape: a shard, how many, the maps. -/
abbrev shV (s n : Int) (mv : Value) : Value := .agg #[.int .i64 s, .int .i64 n, mv]
theorem open_Shape {H : Type} {enc : TypeId × Value → H} {W : World} {base : Nat} {v : Value} {d : DataW H} {p : List MemPlace}
    (hok : Value.okWide Try.prog W .any base 24 v) (h : DataW.Trod enc Try.prog W 0 (fun _ => true) true 24 v d p) :
    ∃ s n mv es, v = shV s n mv ∧ SeesG dfC 2 (0, 0) W mv es ∧ ((d.weights Try.prog 24).all (· ≤ reachBytes) = true → es.length * 16 ≤ 140737488351232) := by
  obtain ⟨cs, rfl, _⟩ := okWide_struct Try.underlying24 hok
  obtain ⟨fuel, hf⟩ := h
  obtain ⟨xs, n, hd, hx, hl, hlen, hf⟩ := DataW.trod_struct Try.underlying24 hf
  have l5 : cs.toList.length = 3 := hl.trans (by kernel_rfl)
  have u2 : Try.prog.cellsOf 3 = 1 := by kernel_rfl
  have u4 : Try.prog.cellsOf 22 = 1 := by kernel_rfl
  obtain ⟨cl⟩ := cs
  simp only [Value.cells] at hf l5
  match cl, l5, xs, hlen, hf with
  | [c0, c1, c2], _, [x0, x1, x2], _, hf =>
    have h0 : DataW.trod enc Try.prog W 0 (fun _ => true) true n 3 (([c0, c1, c2].drop 0).take (Try.prog.cellsOf 3)) = some x0 := hf 0 _ rfl
    have h1 : DataW.trod enc Try.prog W 0 (fun _ => true) true n 3 (([c0, c1, c2].drop 1).take (Try.prog.cellsOf 3)) = some x1 := hf 1 _ rfl
    have h2 : DataW.trod enc Try.prog W 0 (fun _ => true) true n 22 (([c0, c1, c2].drop 2).take (Try.prog.cellsOf 22)) = some x2 := hf 2 _ rfl
    rw [u2] at h0 h1
    rw [u4] at h2
    have h2 : DataW.trod enc Try.prog W 0 (fun _ => true) true n 22 [c2] = some x2 := h2
    obtain ⟨a, e0, y0, g0⟩ := DataW.trod_int Try.underlying3 h0
    obtain ⟨b, e1, y1, g1⟩ := DataW.trod_int Try.underlying3 h1
    simp at e0 e1
    subst e0 e1
    obtain ⟨ua, ul, uc, rfl⟩ := slice_of_trod Try.underlying22 h2
    obtain ⟨es, s1, _, s3⟩ := opensGS (f := dfC) (z := 2) (0, 0) (R := fun _ => True) (Q := fun _ => True) (bytes := 16) (d := x2.1) (p := x2.2) Try.underlying22 (by kernel_rfl) (by decide) dfC_len (by kernel_rfl) df_cells ⟨_, _, _, rfl⟩ ⟨n, h2⟩
    refine ⟨a, b, _, es, rfl, s1, fun hall => ?_⟩
    have hd2 : d = .agg (List.map (fun x => x.1) [x0, x1, x2]) := by simpa using congrArg Prod.fst hx
    rw [hd2, DataW.weights, Try.underlying24] at hall
    simp only [DataW.weightsEach, List.map_cons, List.map_nil, List.all_append, Bool.and_eq_true] at hall
    exact (s3 hall.2.2.1).1
end Go.Proofs.Ytpbfgebecgikjaa
namespace Go.Proofs.Ytpbfgebecgikjaa
open Go.RowKit
set_option linter.unusedVariables false
set_option linter.unusedSimpArgs false
set_option maxRecDepth 100000
/-- An owner that was made since a world, and its blocks. -/
structure Lz (w0 w : World) (b : Nat) (F : Ft) (o : On) : Prop where
  ex : ∃ B, B ≤ w.heap.size ∧ Lwn w B b F o
  since : Since w0 F
  ok : o.Ok
  be : Below w0.heap.size w0 w
section
variable {w0 w w' : World} {b : Nat} {F F' G : Ft} {o o' : On}
theorem Lz.lies (h : Lz w0 w b F o) : Lies w F := by
  obtain ⟨B, _, h1⟩ := h.ex
  exact h1.lies
theorem Lz.keeps (h : Lz w0 w b F o) (hc : Chg w w' G) (ha : Apt G F) (hs : Since w0 G) : Lz w0 w' b F o := by
  obtain ⟨B, h0, h1⟩ := h.ex
  exact ⟨⟨B, Nat.le_trans h0 hc.size, h1.keeps hc ha⟩, h.since, h.ok, h.be.trans (hc.below (fun k e => hs k e) h.be.size)⟩
theorem Lz.below (h : Lz w0 w b F o) (hb : Below w.heap.size w w') : Lz w0 w' b F o := h.keeps (Chg.of_below (S := fun _ => False) hb) (fun _ e => e.elim) (fun _ e => e.elim)
theorem Lz.apt (h : Lz w0 w b F o) {v : Value} {α : Type} {ws : List α} (hl : ws ≠ [] → ∀ k, ftV v k → k < w0.heap.size) : ws ≠ [] → Apt F (ftV v) := fun hne k hk e => by
  have := hl hne k e
  have := h.since k hk
  omega
/-- What lies where nothing of the owner lies. -/
theorem Lz.aptN (h : Lz w0 w b F o) {v : Value} {α : Type} {ws : List α} (hl : ∀ k, ftV v k → w.heap.size ≤ k) : ws ≠ [] → Apt F (ftV v) := fun _ k hk e => by
  have := hl k e
  have := h.lies k hk
  omega
theorem Lz.go (h : Lz w0 w b F o) (hx : ∃ B, B ≤ w.heap.size ∧ Lwn w' B b F' o') (hk : o'.Ok) (hn : Nx w w' F F') : Lz w0 w' b F' o' := by
  obtain ⟨B, h0, h1⟩ := hx
  exact ⟨⟨B, Nat.le_trans h0 hn.chg.size, h1⟩, h.since.next h.be.size hn, hk, h.since.be h.be hn⟩
theorem Lz.send (h : Lz w0 w b F o) {u : Value} {qs : List Rt} (hz : Hid ((o.ln.length + qs.length) * 56 ≤ 140737488355328)) (hs : SeesG rtC 7 Rt.nil w u qs) (hwf : ∀ q ∈ qs, q.wf) (hap : qs ≠ [] → Apt F (ftV u)) {E : Int} (HQ : Hid (o.send qs = (E, o'))) : Calls Try.prog 10 #[.pointer (some ⟨b, 0, none⟩), u] w fun e w' => e = .returned (.int .i64 E) ∧ ∃ F', Lz w0 w' b F' o' ∧ Nx w w' F F' := by
  obtain ⟨B, h0, h1⟩ := h.ex
  refine (h1.send h.ok h0 hz hs hwf hap HQ).mono ?_
  rintro e w' ⟨rfl, F', g1, g2⟩
  exact ⟨rfl, F', h.go ⟨B, h0, g1⟩ (h.ok.send HQ.out) g2, g2⟩
theorem Lz.step (h : Lz w0 w b F o) (hz : Hid (o.ln.length * 56 ≤ 140737488355328)) {p : Ry} {r : Bool} (HQ : Hid (o.step = (p, r, o'))) : Calls Try.prog 13 #[.pointer (some ⟨b, 0, none⟩)] w fun e w' => ∃ a c, e = .returned (.tuple #[rpV p (.slice a p.ps.length c), .bool r]) ∧ ∃ F', Lz w0 w' b F' o' ∧ Nx w w' F F' ∧ RoPp w' w.heap.size (.slice a p.ps.length c) p.ps ∧ Apt F' (ftV (.slice a p.ps.length c)) := by
  obtain ⟨B, h0, h1⟩ := h.ex
  refine (h1.step h.ok h0 hz HQ).mono ?_
  rintro e w' ⟨u, rfl, F', g1, g2, g3, g4⟩
  obtain ⟨a, c, rfl⟩ := own_shape g3
  exact ⟨a, c, rfl, F', h.go ⟨B, h0, g1⟩ (h.ok.step HQ.out) g2, g2, g3, g4⟩
theorem Lz.waiting (h : Lz w0 w b F o) (hz : Hid (o.ln.length * 56 ≤ 140737488355328)) {l : List Rt} (hl : Hid (o.ln = l)) : Calls Try.prog 21 #[.pointer (some ⟨b, 0, none⟩)] w fun e w' => ∃ a c, e = .returned (.slice a l.length c) ∧ RoRt w' w.heap.size (.slice a l.length c) l ∧ Below w.heap.size w w' := by
  obtain ⟨B, h0, h1⟩ := h.ex
  refine (h1.waiting hz).mono ?_
  rintro e w' ⟨u, rfl, g1, g2⟩
  rw [hl.out] at g1
  obtain ⟨a, c, rfl⟩ := own_shape g1
  exact ⟨a, c, rfl, g1, g2⟩
theorem Lz.endd (h : Lz w0 w b F o) {E : Int} (HQ : Hid (o.end = (E, o'))) : Calls Try.prog 16 #[.pointer (some ⟨b, 0, none⟩)] w fun e w' => e = .returned (.int .i64 E) ∧ ∃ F', Lz w0 w' b F' o' ∧ Nx w w' F F' := by
  obtain ⟨B, h0, h1⟩ := h.ex
  refine (h1.endd h0 HQ).mono ?_
  rintro e w' ⟨rfl, F', g1, g2⟩
  exact ⟨rfl, F', h.go ⟨B, h0, g1⟩ (h.ok.end HQ.out) g2, g2⟩
theorem Lz.ended (h : Lz w0 w b F o) : Calls Try.prog 22 #[.pointer (some ⟨b, 0, none⟩)] w fun e w' => e = .returned (.bool o.over) ∧ w = w' := by
  obtain ⟨B, h0, h1⟩ := h.ex
  exact h1.ended
theorem Lz.pairs (h : Lz w0 w b F o) (m : Int) {E : Int} {ps : List Pp} (HQ : Hid ((if o.hasM m = true then (0, (o.sr m).1) else (2, [])) = (E, ps))) : Calls Try.prog 18 #[.pointer (some ⟨b, 0, none⟩), .int .i64 m] w fun e w' => ∃ a c, e = .returned (.tuple #[.slice a ps.length c, .int .i64 E]) ∧ RoPp w' w.heap.size (.slice a ps.length c) ps ∧ Below w.heap.size w w' := by
  obtain ⟨B, h0, h1⟩ := h.ex
  refine (h1.pairs h.ok m HQ).mono ?_
  rintro e w' ⟨u, rfl, g1, g2⟩
  obtain ⟨a, c, rfl⟩ := own_shape g1
  exact ⟨a, c, rfl, g1, g2⟩
theorem lznew_ok (sh n : Int) {v : Value} {es : List (Int × Int)} {w1 : World} (hb : Below w0.heap.size w0 w1) (hs : SeesG dfC 2 (0, 0) w1 v es) (HN : Hid (newO sh n es = some o)) : Calls Try.prog 8 #[.int .i64 sh, .int .i64 n, v] w1 fun e w' => ∃ b F, e = .returned (.tuple #[.pointer (some ⟨b, 0, none⟩), .int .i64 0]) ∧ Lz w0 w' b F o ∧ Since w1 F ∧ Below w1.heap.size w1 w' := by
  refine (lonew_ok sh n w1 hs HN).mono ?_
  rintro e w' ⟨b, F, rfl, h1, h2, h3⟩
  obtain ⟨_, _, _, _, _, _, hok⟩ := newO_some HN.out
  exact ⟨b, F, rfl, ⟨⟨_, h3.size, h1⟩, fun k hk => Nat.le_trans hb.size (h2 k hk), hok, hb.trans (h3.mono hb.size)⟩, h2, h3⟩
end
theorem SeesG.oldG {α : Type} {f : α → List Value} {z : Nat} {d : α} {w0 : World} {v : Value} {xs : List α} (h : SeesG f z d w0 v xs) : xs ≠ [] → ∀ k, ftV v k → k < w0.heap.size := by
  intro hne k hk
  obtain ⟨a, c, rfl, _, _, _, hc⟩ := h
  obtain ⟨b, of, rfl, hlt, _⟩ := hc hne
  have : b = k := Option.some.inj hk
  omega
section
variable {w w' : World}
set_option maxHeartbeats 3200000 in
/-- Equal lines are alike. -/
theorem wlines {va vb : Value} {A : List Rt} (ha : SeesG rtC 7 Rt.nil w va A) (hb : SeesG rtC 7 Rt.nil w vb A) : Calls Try.prog 12 #[va, vb] w fun e w' => e = .returned (.bool true) ∧ Below w.heap.size w w' := by
  have HA := keepG (fun (wr : World) (hc : Below w.heap.size w wr) => ha.below hc (Nat.le_refl _))
  have HB := keepG (fun (wr : World) (hc : Below w.heap.size w wr) => hb.below hc (Nat.le_refl _))
  obtain ⟨a1, c1, ev1, hl1, hm1⟩ := ha.shape
  obtain ⟨a2, c2, ev2, hl2, hm2⟩ := hb.shape
  subst ev1 ev2
  have hAl : A.length ≤ 9223372036854775807 := by omega
  clear ha hb
  go_enter Try.func12, Try.ntmps12
  go_wp2
  go_loopw [5] (fun i wr => ∃ j : Nat, j ≤ A.length ∧ i = .int .i64 j ∧ Hid (Below w.heap.size w wr)) (fun i _ => A.length - (intOf i).toNat)
  case atStart => exact ⟨0, by omega, rfl, Below.refl _ _⟩
  case round =>
    obtain ⟨j, hj, rfl, HBW⟩ := hrel
    rename World => wr
    by_cases hlt : j < A.length
    · have hltI : (j : Int) < A.length := by omega
      obtain ⟨p1, o1, ev1, hat1⟩ := rtAt (HA.out wr HBW.out) hlt
      obtain ⟨p2, o2, ev2, hat2⟩ := rtAt (HB.out wr HBW.out) hlt
      subst ev1 ev2
      obtain ⟨t, HT⟩ : ∃ t, Hid (A.getD j Rt.nil = t) := ⟨_, rfl⟩
      obtain ⟨d0, d1, d2, d3, d4, d5, d6⟩ := hat1 j hlt t HT.out
      obtain ⟨e0, e1, e2, e3, e4, e5, e6⟩ := hat2 j hlt t HT.out
      obtain ⟨qf, qt, qw, qm, qo, qk, qv⟩ := t
      simp only at d0 d1 d2 d3 d4 d5 d6 e0 e1 e2 e3 e4 e5 e6
      clear hat1 hat2
      have HBd := keepG (below_drG HBW.out)
      go_wp2
      refine wp_region_held_drew (S := fun w' => (w'.cell? ⟨p1, o1 + j * 7, none⟩ = some (.int .i64 qf) ∧ w'.cell? ⟨p1, o1 + j * 7 + 1, none⟩ = some (.int .i64 qt) ∧ w'.cell? ⟨p1, o1 + j * 7 + 2, none⟩ = some (.bool qw) ∧ w'.cell? ⟨p1, o1 + j * 7 + 3, none⟩ = some (.int .i64 qm) ∧ w'.cell? ⟨p1, o1 + j * 7 + 4, none⟩ = some (.int .i64 qo) ∧ w'.cell? ⟨p1, o1 + j * 7 + 5, none⟩ = some (.int .u64 qk) ∧ w'.cell? ⟨p1, o1 + j * 7 + 6, none⟩ = some (.int .u64 qv)) ∧ w'.cell? ⟨p2, o2 + j * 7, none⟩ = some (.int .i64 qf) ∧ w'.cell? ⟨p2, o2 + j * 7 + 1, none⟩ = some (.int .i64 qt) ∧ w'.cell? ⟨p2, o2 + j * 7 + 2, none⟩ = some (.bool qw) ∧ w'.cell? ⟨p2, o2 + j * 7 + 3, none⟩ = some (.int .i64 qm) ∧ w'.cell? ⟨p2, o2 + j * 7 + 4, none⟩ = some (.int .i64 qo) ∧ w'.cell? ⟨p2, o2 + j * 7 + 5, none⟩ = some (.int .u64 qk) ∧ w'.cell? ⟨p2, o2 + j * 7 + 6, none⟩ = some (.int .u64 qv)) (by kernel_rfl) ⟨⟨d0, d1, d2, d3, d4, d5, d6⟩, e0, e1, e2, e3, e4, e5, e6⟩ (fun hHeld => ?_)
      refine tkGo [0, 1, 2, 3, 4, 5, 6, 7, 8] ?_
      repeat (refine tkOne (v := ?_) rfl (by kernel_rfl) (by kernel_rfl) (by kernel_rfl) (fun _ _ _ h => h) (by assumption) (by rfl) ?_ ?_; rotate_left; (intro wy hSw; (try dsimp only at hSw); go_simp; (first | done | with_reducible rfl)); try simp only [Act.put, List.getElem_toArray, List.getElem_cons_zero, List.getElem_cons_succ, List.setIfInBounds_toArray, List.set_cons_zero, List.set_cons_succ])
      refine tkEnd ?_
      refine wpAnyH_done (by kernel_rfl) ?_ _
      clear hHeld
      go_wp2
      go_roundw
      case rel => exact ⟨j + 1, by omega, by go_num, HBd.out⟩
      case measure => simp [intOf]; omega
    · have hltI : ¬ (j : Int) < A.length := by omega
      go_wp2
      go_ret
      exact ⟨rfl, HBW.out⟩
theorem ppAt {a : Option Addr} {n cap : Nat} {l : List Pp} (h : SeesG ppC 2 Pp.nil w (.slice a n cap) l) {j : Nat} (hj : j < l.length) : ∃ p off, a = some ⟨p, off, none⟩ ∧ ∀ i, i < l.length → ∀ q, l.getD i Pp.nil = q → w.cell? ⟨p, off + i * 2, none⟩ = some (.int .u64 q.k) ∧ w.cell? ⟨p, off + i * 2 + 1, none⟩ = some (.int .u64 q.v) := by
  obtain ⟨a', cap', ev, _, _, _, hat⟩ := h
  simp only [Value.slice.injEq] at ev
  obtain ⟨rfl, _, rfl⟩ := ev
  obtain ⟨p, off, rfl, _, hc⟩ := hat (fun e => by rw [e] at hj; simp at hj)
  refine ⟨p, off, rfl, fun i hi q hq => ?_⟩
  have g0 := hc i hi 0 (by omega)
  have g1 := hc i hi 1 (by omega)
  rw [hq] at g0 g1
  exact ⟨g0, g1⟩
set_option maxHeartbeats 3200000 in
/-- Equal pairs are alike. -/
theorem wpairs22 {va vb : Value} {A : List Pp} (ha : SeesG ppC 2 Pp.nil w va A) (hb : SeesG ppC 2 Pp.nil w vb A) : Calls Try.prog 19 #[va, vb] w fun e w' => e = .returned (.bool true) ∧ Below w.heap.size w w' := by
  have HA := keepG (fun (wr : World) (hc : Below w.heap.size w wr) => ha.below hc (Nat.le_refl _))
  have HB := keepG (fun (wr : World) (hc : Below w.heap.size w wr) => hb.below hc (Nat.le_refl _))
  obtain ⟨a1, c1, ev1, hl1, hm1⟩ := ha.shape
  obtain ⟨a2, c2, ev2, hl2, hm2⟩ := hb.shape
  subst ev1 ev2
  have hAl : A.length ≤ 9223372036854775807 := by omega
  clear ha hb
  go_enter Try.func19, Try.ntmps19
  go_wp2
  go_loopw [5] (fun i wr => ∃ j : Nat, j ≤ A.length ∧ i = .int .i64 j ∧ Hid (Below w.heap.size w wr)) (fun i _ => A.length - (intOf i).toNat)
  case atStart => exact ⟨0, by omega, rfl, Below.refl _ _⟩
  case round =>
    obtain ⟨j, hj, rfl, HBW⟩ := hrel
    rename World => wr
    by_cases hlt : j < A.length
    · have hltI : (j : Int) < A.length := by omega
      obtain ⟨p1, o1, ev1, hat1⟩ := ppAt (HA.out wr HBW.out) hlt
      obtain ⟨p2, o2, ev2, hat2⟩ := ppAt (HB.out wr HBW.out) hlt
      subst ev1 ev2
      obtain ⟨t, HT⟩ : ∃ t, Hid (A.getD j Pp.nil = t) := ⟨_, rfl⟩
      obtain ⟨d0, d1⟩ := hat1 j hlt t HT.out
      obtain ⟨e0, e1⟩ := hat2 j hlt t HT.out
      obtain ⟨qk, qv⟩ := t
      simp only at d0 d1 e0 e1
      clear hat1 hat2
      have HBd := keepG (below_drG HBW.out)
      go_wp2
      refine wp_region_held_drew (S := fun w' => (w'.cell? ⟨p1, o1 + j * 2, none⟩ = some (.int .u64 qk) ∧ w'.cell? ⟨p1, o1 + j * 2 + 1, none⟩ = some (.int .u64 qv)) ∧ w'.cell? ⟨p2, o2 + j * 2, none⟩ = some (.int .u64 qk) ∧ w'.cell? ⟨p2, o2 + j * 2 + 1, none⟩ = some (.int .u64 qv)) (by kernel_rfl) ⟨⟨d0, d1⟩, e0, e1⟩ (fun hHeld => ?_)
      refine tkGo [0, 1, 2, 3, 4, 5, 6, 7, 8] ?_
      repeat (refine tkOne (v := ?_) rfl (by kernel_rfl) (by kernel_rfl) (by kernel_rfl) (fun _ _ _ h => h) (by assumption) (by rfl) ?_ ?_; rotate_left; (intro wy hSw; (try dsimp only at hSw); go_simp; (first | done | with_reducible rfl)); try simp only [Act.put, List.getElem_toArray, List.getElem_cons_zero, List.getElem_cons_succ, List.setIfInBounds_toArray, List.set_cons_zero, List.set_cons_succ])
      refine tkEnd ?_
      refine wpAnyH_done (by kernel_rfl) ?_ _
      clear hHeld
      go_wp2
      go_roundw
      case rel => exact ⟨j + 1, by omega, by go_num, HBd.out⟩
      case measure => simp [intOf]; omega
    · have hltI : ¬ (j : Int) < A.length := by omega
      go_wp2
      go_ret
      exact ⟨rfl, HBW.out⟩
set_option maxHeartbeats 6400000 in
/-- Equal replies are alike. -/
theorem walike {p : Ry} {va vb : Value} (ha : SeesG ppC 2 Pp.nil w va p.ps) (hb : SeesG ppC 2 Pp.nil w vb p.ps) : Calls Try.prog 15 #[rpV p va, rpV p vb] w fun e w' => e = .returned (.bool true) ∧ Below w.heap.size w w' := by
  obtain ⟨a1, c1, ev1, hl1, hm1⟩ := ha.shape
  obtain ⟨a2, c2, ev2, hl2, hm2⟩ := hb.shape
  subst ev1 ev2
  obtain ⟨q, x, ps⟩ := p
  obtain ⟨qf, qt, qw, qm, qo, qk, qv⟩ := q
  obtain ⟨xE, xf, xv, xo, xk, xu⟩ := x
  simp only at ha hb hl1 hl2
  obtain ⟨X, HX, hbX, HPX⟩ : ∃ X, Hid (w.alloc (.cells (rpC ⟨⟨qf, qt, qw, qm, qo, qk, qv⟩, ⟨xE, xf, xv, xo, xk, xu⟩, ps⟩ (.slice a1 ps.length c1)).toArray 50) = X) ∧ Below w.heap.size w X ∧ Hid (Hp X w.heap.size 50 (rpC ⟨⟨qf, qt, qw, qm, qo, qk, qv⟩, ⟨xE, xf, xv, xo, xk, xu⟩, ps⟩ (.slice a1 ps.length c1))) := ⟨_, rfl, below_allocG _ _, Hp.new w _ _⟩
  obtain ⟨Y, HY, hbY, HPY⟩ : ∃ Y, Hid (X.alloc (.cells (rpC ⟨⟨qf, qt, qw, qm, qo, qk, qv⟩, ⟨xE, xf, xv, xo, xk, xu⟩, ps⟩ (.slice a2 ps.length c2)).toArray 50) = Y) ∧ Below X.heap.size X Y ∧ Hid (Hp Y X.heap.size 50 (rpC ⟨⟨qf, qt, qw, qm, qo, qk, qv⟩, ⟨xE, xf, xv, xo, xk, xu⟩, ps⟩ (.slice a2 ps.length c2))) := ⟨_, rfl, below_allocG _ _, Hp.new X _ _⟩
  have HPX2 := keepG (HPX.out.below hbY HPX.out.lt)
  have hbw := hbX.trans (hbY.mono hbX.size)
  have HSA := keepG (ha.below hbw (Nat.le_refl _))
  have HSB := keepG (hb.below hbw (Nat.le_refl _))
  have HBW := keepG hbw
  clear ha hb hbX hbY hbw HPX HPY HPX2
  unfold rpV
  go_enter Try.func15, Try.ntmps15
  go_wp2_with (first
    | (go_at_call 19; rw [HX.out, HY.out]; go_must (refine (wpairs22 HSA.out HSB.out).mono ?_); rintro e w3 ⟨rfl, hb3⟩; go_must (have HB3 := keepG (HBW.out.trans (hb3.mono HBW.out.size)); clear hb3)))
  go_ret
  exact ⟨rfl, HB3.out⟩
end
theorem lit_rts (w : World) (qs : List Rt) (hl : qs.length ≤ 4194304) : SeesG rtC 7 Rt.nil (w.alloc (.cells (flatG rtC qs).toArray 45)) (.slice (some ⟨w.heap.size, 0, none⟩) qs.length qs.length) qs := SeesG.lit rtC_len Rt.nil w _ qs _ _ rfl rfl hl
theorem ft_litO {w : World} {k l c : Nat} : ftV (.slice (some ⟨w.heap.size, 0, none⟩) l c) k → w.heap.size ≤ k := fun e => by
  have : w.heap.size = k := Option.some.inj e
  omega
set_option maxHeartbeats 6400000 in
theorem awake22_any (w : World) : Calls Try.prog 7 #[] w fun e w' => e = .returned (.bool true) ∧ Below w.heap.size w w' := by
  obtain ⟨o1, HN⟩ : ∃ o1, Hid (newO 0 2 [(0, 1)] = some o1) := ⟨_, rfl⟩
  have ho1 : o1 = On.new 0 2 [(false, 1)] := by
    have := HN.out
    injection this with this
    rw [← this]
    rfl
  have HQ1 : Hid (o1.send [⟨5, 9, false, 0, 2, 0, 7⟩, ⟨6, 0, true, 0, 0, 0, 0⟩] = (0, ⟨0, 2, [(false, 1)], [([], [])], [⟨5, 9, false, 0, 2, 0, 7⟩, ⟨6, 0, true, 0, 0, 0, 0⟩], false⟩)) := by
    show _ = _
    rw [ho1]
    rfl
  have HQ2 : Hid ((⟨0, 2, [(false, 1)], [([], [])], [⟨5, 9, false, 0, 2, 0, 7⟩, ⟨6, 0, true, 0, 0, 0, 0⟩], false⟩ : On).step = (⟨⟨5, 9, false, 0, 2, 0, 7⟩, ⟨0, false, 0, false, 0, 0⟩, []⟩, true, ⟨0, 2, [(false, 1)], [([⟨0, 7⟩], [])], [⟨6, 0, true, 0, 0, 0, 0⟩], false⟩)) := by show _ = _; rfl
  have HQ3 : Hid ((⟨0, 2, [(false, 1)], [([⟨0, 7⟩], [])], [⟨6, 0, true, 0, 0, 0, 0⟩], false⟩ : On).step = (⟨⟨6, 0, true, 0, 0, 0, 0⟩, Rq.none, [⟨0, 7⟩]⟩, true, ⟨0, 2, [(false, 1)], [([⟨0, 7⟩], [])], [], false⟩)) := by show _ = _; rfl
  have HZ0 : Hid (o1.ln.length = 0) := by show _ = _; rw [ho1]; rfl
  clear ho1
  go_enter Try.func7, Try.ntmps7
  go_wp2_with (first
    | (go_at_call 8; go_must (refine (lznew_ok (w0 := w) 0 2 (es := [(0, 1)]) (below_allocG w _) (SeesG.lit dfC_len (0, 0) w 74 [(0, 1)] _ 1 rfl rfl (by simp)) HN).mono ?_); rintro e w1 ⟨b, F, rfl, hL, _, _⟩; go_must (have HL := keepG hL; obtain ⟨Z, HZ, hbZ, HSZ⟩ : ∃ Z, Hid (w1.alloc (.cells #[.int .i64 5, .int .i64 9, .bool false, .int .i64 0, .int .i64 2, .int .u64 0, .int .u64 7, .int .i64 6, .int .i64 0, .bool true, .int .i64 0, .int .i64 0, .int .u64 0, .int .u64 0] 45) = Z) ∧ Below w1.heap.size w1 Z ∧ Hid (SeesG rtC 7 Rt.nil Z (.slice (some ⟨w1.heap.size, 0, none⟩) 2 2) [⟨5, 9, false, 0, 2, 0, 7⟩, ⟨6, 0, true, 0, 0, 0, 0⟩]) := ⟨_, rfl, below_allocG _ _, lit_rts w1 [⟨5, 9, false, 0, 2, 0, 7⟩, ⟨6, 0, true, 0, 0, 0, 0⟩] (by simp)⟩; have HLZ := keepG (hL.below hbZ); have HAZ := keepG (hL.aptN (α := Rt) (ws := [⟨5, 9, false, 0, 2, 0, 7⟩, ⟨6, 0, true, 0, 0, 0, 0⟩]) (v := .slice (some ⟨w1.heap.size, 0, none⟩) 2 2) (fun k e => ft_litO e)); clear hL hbZ))
    | (go_at_call 10; rw [HZ.out]; go_must (refine (HLZ.out.send (by show _ ≤ _; rw [HZ0.out]; simp) HSZ.out (by intro q hq; simp at hq; rcases hq with e | e <;> subst e <;> exact ⟨by decide, by decide⟩) HAZ.out HQ1).mono ?_); rintro e w2 ⟨rfl, F2, hL2, _⟩; go_must (have HL2 := keepG hL2; clear hL2))
    | (have hq := HL3; clear hq; go_at_call 13; go_must (refine (HLY.out.step (by show _ ≤ _; simp) HQ3).mono ?_); rintro e w4 ⟨a4, c4, rfl, F4, hL4, hn4, hr4, _⟩; go_must (have HL4 := keepG hL4; unfold rpV; obtain ⟨p4, cc4, ev, -, hp4, hc4, hm4, hat4⟩ := own_atG ppC_len Pp.nil hr4 (by simp); simp only [Value.slice.injEq, true_and] at ev; obtain ⟨rfl, rfl⟩ := ev; have g1 : w4.cell? ⟨p4, 1, none⟩ = some (.int .u64 7) := (hat4 0 (by simp) 1 (by decide)).1; have HP4 := keepG (HPY.out.chg hn4.chg (fun e => by have := HL3.out.lies _ e; omega)); have hl4 := HP4.out.lt; obtain ⟨W5, HW5, hb5, HP5⟩ : ∃ W5, Hid (w4.alloc (.cells (rpC ⟨⟨6, 0, true, 0, 0, 0, 0⟩, Rq.none, [⟨0, 7⟩]⟩ (.slice (some ⟨p4, 0, none⟩) 1 c4)).toArray 50) = W5) ∧ Below w4.heap.size w4 W5 ∧ Hid (Hp W5 w4.heap.size 50 (rpC ⟨⟨6, 0, true, 0, 0, 0, 0⟩, Rq.none, [⟨0, 7⟩]⟩ (.slice (some ⟨p4, 0, none⟩) 1 c4))) := ⟨_, rfl, below_allocG _ _, Hp.new w4 _ _⟩; have HP6 := keepG (HP4.out.below hb5 hl4); have x0 := HP6.out.cell (j := 0) rfl; have x1 := HP6.out.cell (j := 1) rfl; have z2 := HP5.out.cell (j := 2) rfl; have z13 := HP5.out.cell (j := 13) rfl; have g2 := (hb5.cell (p := ⟨p4, 1, none⟩) hp4).trans g1; have HL5 := keepG (HL4.out.below hb5); clear hL4 hr4 hn4 hat4 hb5 g1))
    | (go_at_call 13; go_must (refine (HL2.out.step (by show _ ≤ _; simp) HQ2).mono ?_); rintro e w3 ⟨a3, c3, rfl, F3, hL3, _, _, _⟩; go_must (have HL3 := keepG hL3; unfold rpV; obtain ⟨Y, HY, HLY, HPY⟩ : ∃ Y, Hid (w3.alloc (.cells (rpC ⟨⟨5, 9, false, 0, 2, 0, 7⟩, ⟨0, false, 0, false, 0, 0⟩, []⟩ (.slice a3 0 c3)).toArray 50) = Y) ∧ Hid (Lz w Y b F3 ⟨0, 2, [(false, 1)], [([⟨0, 7⟩], [])], [⟨6, 0, true, 0, 0, 0, 0⟩], false⟩) ∧ Hid (Hp Y w3.heap.size 50 (rpC ⟨⟨5, 9, false, 0, 2, 0, 7⟩, ⟨0, false, 0, false, 0, 0⟩, []⟩ (.slice a3 0 c3))) := ⟨_, rfl, hL3.below (below_allocG _ _), Hp.new w3 _ _⟩; clear hL3))
    | (rw [HW5.out])
    | (rw [HY.out]))
  go_ret
  exact ⟨rfl, HL5.out.be⟩
end Go.Proofs.Ytpbfgebecgikjaa
namespace Go.Proofs.Ytpbfgebecgikjaa
open Go.RowKit
set_option linter.unusedVariables false
set_option linter.unusedSimpArgs false
set_option maxRecDepth 100000
theorem newO_line {sh n : Int} {es : List (Int × Int)} {o : On} (h : newO sh n es = some o) : o.line [] = o ∧ o.over = false ∧ o.ln = [] ∧ o.st.length = es.length := by
  obtain ⟨_, _, _, ds, h1, rfl, _⟩ := newO_some h
  refine ⟨rfl, rfl, rfl, ?_⟩
  show (List.replicate ds.length Sr.nil).length = _
  rw [List.length_replicate]
  exact (allDf_some h1).1
theorem send_one {o : On} (ho : o.over = false) (l : List Rt) (q : Rt) : (o.line l).send [q] = if o.takes q = true then (0, o.line (l ++ [q])) else (2, o.line l) := by
  have ht : (o.line l).takes q = o.takes q := takes_same rfl rfl rfl q
  have ho' : (o.line l).over = false := ho
  unfold On.send
  rw [if_neg (by rw [ho']; decide)]
  simp only [List.all_cons, List.all_nil, Bool.and_true, ht]
  rfl
theorem send_all {o : On} (ho : o.over = false) (hl : o.ln = []) (qs : List Rt) : o.send qs = if qs.all o.takes = true then (0, o.line qs) else (2, o) := by
  unfold On.send
  rw [if_neg (by rw [ho]; decide), hl, List.nil_append]
theorem step_cons {o : On} {q : Rt} {r : List Rt} (h : o.ln = q :: r) : ∃ p o', o.step = (p, true, o') ∧ o'.ln = r ∧ o'.over = o.over ∧ o'.st.length = o.st.length := by
  refine ⟨_, _, by unfold On.step; rw [h], ?_, ?_, ?_⟩
  · unfold On.serve; split <;> rfl
  · unfold On.serve; split <;> rfl
  · unfold On.serve; split
    · rfl
    · simp
/-- Two owners, apart. -/
structure L2 (w0 w : World) (a b : Nat) (F G : Ft) (o p : On) : Prop where
  la : Lz w0 w a F o
  lb : Lz w0 w b G p
  fg : Apt F G
section
variable {w0 w w' : World} {a b : Nat} {F F' G G' : Ft} {o o' p p' : On}
theorem L2.below (h : L2 w0 w a b F G o p) (hb : Below w.heap.size w w') : L2 w0 w' a b F G o p := ⟨h.la.below hb, h.lb.below hb, h.fg⟩
theorem L2.goA (h : L2 w0 w a b F G o p) (hl : Lz w0 w' a F' o') (hn : Nx w w' F F') : L2 w0 w' a b F' G o' p := ⟨hl, h.lb.keeps hn.chg h.fg h.la.since, h.fg.next h.lb.lies hn⟩
theorem L2.goB (h : L2 w0 w a b F G o p) (hl : Lz w0 w' b G' p') (hn : Nx w w' G G') : L2 w0 w' a b F G' o p' := ⟨h.la.keeps hn.chg h.fg.symm h.lb.since, hl, (h.fg.symm.next h.la.lies hn).symm⟩
end
/-- The fourteen cells of a reply's box. -/
theorem rp_cells {w : World} {n : Nat} {p : Ry} {u : Value} (h : Hp w n 50 (rpC p u)) : (w.cell? ⟨n, 0, none⟩ = some (.int .i64 p.q.f) ∧ w.cell? ⟨n, 1, none⟩ = some (.int .i64 p.q.t) ∧ w.cell? ⟨n, 2, none⟩ = some (.bool p.q.wk) ∧ w.cell? ⟨n, 3, none⟩ = some (.int .i64 p.q.m) ∧ w.cell? ⟨n, 4, none⟩ = some (.int .i64 p.q.op) ∧ w.cell? ⟨n, 5, none⟩ = some (.int .u64 p.q.k) ∧ w.cell? ⟨n, 6, none⟩ = some (.int .u64 p.q.v)) ∧ w.cell? ⟨n, 7, none⟩ = some (.int .i64 p.x.E) ∧ w.cell? ⟨n, 8, none⟩ = some (.bool p.x.f) ∧ w.cell? ⟨n, 9, none⟩ = some (.int .u64 p.x.v) ∧ w.cell? ⟨n, 10, none⟩ = some (.bool p.x.o) ∧ w.cell? ⟨n, 11, none⟩ = some (.int .u64 p.x.k) ∧ w.cell? ⟨n, 12, none⟩ = some (.int .u64 p.x.u) ∧ w.cell? ⟨n, 13, none⟩ = some u :=
  ⟨⟨h.cell (j := 0) rfl, h.cell (j := 1) rfl, h.cell (j := 2) rfl, h.cell (j := 3) rfl, h.cell (j := 4) rfl, h.cell (j := 5) rfl, h.cell (j := 6) rfl⟩, h.cell (j := 7) rfl, h.cell (j := 8) rfl, h.cell (j := 9) rfl, h.cell (j := 10) rfl, h.cell (j := 11) rfl, h.cell (j := 12) rfl, h.cell (j := 13) rfl⟩
theorem filter_take {T : Rt → Bool} {qs : List Rt} {j : Nat} (hj : j < qs.length) : (qs.take (j + 1)).filter T = if T (qs.getD j Rt.nil) = true then (qs.take j).filter T ++ [qs.getD j Rt.nil] else (qs.take j).filter T := by
  rw [take_atR qs j hj, List.filter_append]
  by_cases h : T (qs.getD j Rt.nil) = true
  · rw [if_pos h, List.filter_cons_of_pos h]; rfl
  · rw [if_neg h, List.filter_cons_of_neg h]; simp
theorem drop_cons {qs : List Rt} {j : Nat} (hj : j < qs.length) : qs.drop j = qs.getD j Rt.nil :: qs.drop (j + 1) := by
  rw [List.drop_eq_getElem_cons hj]
  simp [List.getD, hj]
end Go.Proofs.Ytpbfgebecgikjaa
namespace Go.Proofs.Ytpbfgebecgikjaa
open Go.RowKit
set_option linter.unusedVariables false
set_option linter.unusedSimpArgs false
set_option maxRecDepth 100000
/-- The owner once these were served in order; its line stays as it is left by the last. -/
def On.after (o : On) : List Rt → On
  | [] => o
  | q :: l => ((o.serve q []).2).after l
/-- The replies to these, served in order. -/
def On.reps (o : On) : List Rt → List Ry
  | [] => []
  | q :: l => (o.serve q []).1 :: ((o.serve q []).2).reps l
theorem serve_line (o : On) (l : List Rt) (q : Rt) (r : List Rt) : (o.line l).serve q r = ((o.serve q []).1, ((o.serve q []).2).line r) := by
  unfold On.serve
  cases q.wk <;> rfl
theorem after_app (q : Rt) : ∀ (l : List Rt) (o : On), o.after (l ++ [q]) = ((o.after l).serve q []).2
  | [], o => rfl
  | x :: l, o => after_app q l _
theorem reps_app (q : Rt) : ∀ (l : List Rt) (o : On), o.reps (l ++ [q]) = o.reps l ++ [((o.after l).serve q []).1]
  | [], o => rfl
  | x :: l, o => congrArg (List.cons _) (reps_app q l _)
theorem reps_len : ∀ (l : List Rt) (o : On), (o.reps l).length = l.length
  | [], o => rfl
  | x :: l, o => by simp [On.reps, reps_len l]
theorem serve_same (o : On) (q : Rt) (r : List Rt) : (o.serve q r).2.st.length = o.st.length ∧ (o.serve q r).2.n = o.n ∧ (o.serve q r).2.sh = o.sh ∧ (o.serve q r).2.over = o.over ∧ (o.serve q r).2.ds = o.ds ∧ (o.serve q r).2.ln = r := by
  unfold On.serve
  cases q.wk
  · exact ⟨by simp, rfl, rfl, rfl, rfl, rfl⟩
  · exact ⟨rfl, rfl, rfl, rfl, rfl, rfl⟩
theorem after_same : ∀ (l : List Rt) (o : On), (o.after l).st.length = o.st.length ∧ (o.after l).n = o.n ∧ (o.after l).sh = o.sh ∧ (o.after l).over = o.over ∧ (o.after l).ds = o.ds
  | [], o => ⟨rfl, rfl, rfl, rfl, rfl⟩
  | q :: l, o => by
    obtain ⟨a1, a2, a3, a4, a5⟩ := after_same l (o.serve q []).2
    obtain ⟨b1, b2, b3, b4, b5, _⟩ := serve_same o q []
    exact ⟨a1.trans b1, a2.trans b2, a3.trans b3, a4.trans b4, a5.trans b5⟩
theorem after_takes (l : List Rt) (o : On) (q : Rt) : (o.after l).takes q = o.takes q := by
  obtain ⟨a1, a2, a3, _⟩ := after_same l o
  exact takes_same a1 a2 a3 q
theorem after_ok : ∀ (l : List Rt) {o : On}, o.Ok → (∀ q ∈ l, o.takes q = true) → (o.after l).Ok
  | [], o, h, _ => h
  | q :: l, o, h, hl => by
    have h1 : (o.line [q]).Ok := h.line' (fun x hx => by rw [List.mem_singleton.1 hx]; exact hl q (by simp))
    have h2 := h1.serve (q := q) (r := []) rfl
    rw [serve_line] at h2
    obtain ⟨b1, b2, b3, b4, b5, b6⟩ := serve_same o q []
    have h3 : (o.serve q []).2.Ok := by
      have e : ((o.serve q []).2).line [] = (o.serve q []).2 := by
        cases hq : (o.serve q []).2 with
        | mk s1 n1 d1 t1 l1 v1 => rw [hq] at b6; show On.mk s1 n1 d1 t1 [] v1 = _; rw [show l1 = [] from b6]
      rw [← e]
      exact h2
    exact after_ok l h3 (fun x hx => (takes_same b1 b2 b3 x).trans (hl x (by simp [hx])))
/-- How far it has come: these were taken, these replies were given. -/
structure Pg (o0 : On) (L : List Rt) (R : List Ry) (o : On) : Prop where
  le : R.length ≤ L.length
  rs : R = o0.reps (L.take R.length)
  on : o = (o0.after (L.take R.length)).line (L.drop R.length)
  tk : ∀ q ∈ L, o0.takes q = true
section
variable {o0 o : On} {L : List Rt} {R : List Ry}
theorem Pg.start (h : o0.line [] = o0) : Pg o0 [] [] o0 := ⟨Nat.le_refl _, rfl, h.symm, by simp⟩
theorem Pg.ln (h : Pg o0 L R o) : o.ln = L.drop R.length := by rw [h.on]; rfl
theorem Pg.send (h : Pg o0 L R o) (hv : o0.over = false) (q : Rt) : (o0.takes q = true → ∃ o', o.send [q] = (0, o') ∧ Pg o0 (L ++ [q]) R o') ∧ (o0.takes q = false → o.send [q] = (2, o)) := by
  have hv' : (o0.after (L.take R.length)).over = false := (after_same _ o0).2.2.2.1.trans hv
  have hs := send_one hv' (L.drop R.length) q
  rw [after_takes] at hs
  have hle := h.le
  refine ⟨fun ht => ?_, fun ht => ?_⟩
  · rw [if_pos ht] at hs
    refine ⟨(o0.after (L.take R.length)).line (L.drop R.length ++ [q]), by rw [h.on]; exact hs, by simp; omega, ?_, ?_, ?_⟩
    · rw [List.take_append_of_le_length hle]; exact h.rs
    · rw [List.take_append_of_le_length hle, List.drop_append_of_le_length hle]
    · intro x hx
      rcases List.mem_append.1 hx with g | g
      · exact h.tk x g
      · rw [List.mem_singleton.1 g]; exact ht
  · rw [if_neg (by rw [ht]; decide)] at hs
    rw [h.on]
    exact hs
theorem Pg.step (h : Pg o0 L R o) (hlt : R.length < L.length) : ∃ p o', o.step = (p, true, o') ∧ Pg o0 L (R ++ [p]) o' := by
  have hd := drop_cons hlt
  have ht := take_atR L R.length hlt
  have hl : o.ln = L.getD R.length Rt.nil :: L.drop (R.length + 1) := h.ln.trans hd
  refine ⟨_, _, by unfold On.step; rw [hl], by simp; omega, ?_, ?_, h.tk⟩
  · rw [List.length_append, List.length_singleton, ht, reps_app, ← h.rs, h.on, serve_line]
  · rw [List.length_append, List.length_singleton, ht, after_app, h.on, serve_line]
theorem Pg.stop (h : Pg o0 L R o) (hlt : ¬ R.length < L.length) : o.step = (Ry.nil, false, o) ∧ o.ln = [] := by
  have hl : o.ln = [] := h.ln.trans (List.drop_of_length_le (by omega))
  exact ⟨by unfold On.step; rw [hl], hl⟩
theorem Pg.at (h : Pg o0 L R o) {i : Nat} (hi : i < R.length) : R[i]? = some ((o0.after (L.take i)).serve (L.getD i Rt.nil) []).1 := by
  have hle := h.le
  have key : ∀ (l : List Rt) (o : On) (i : Nat), i < l.length → (o.reps l)[i]? = some ((o.after (l.take i)).serve (l.getD i Rt.nil) []).1 := by
    intro l
    induction l with
    | nil => intro o i hi; simp at hi
    | cons x l ih =>
      intro o i hi
      cases i with
      | zero => rfl
      | succ i => simpa [On.reps, On.after] using ih (o.serve x []).2 i (by simpa using hi)
  have hk := key (L.take R.length) o0 i (by simp; omega)
  rw [← h.rs] at hk
  rw [hk, List.take_take, Nat.min_eq_left (by omega)]
  have e : (L.take R.length).getD i Rt.nil = L.getD i Rt.nil := by simp [List.getD, List.getElem?_take, hi]
  rw [e]
end
abbrev rpG (x : Ry × Value) : List Value := rpC x.1 x.2
theorem rpG_len (x : Ry × Value) : (rpG x).length = 14 := rfl
/-- A row of landed shards. -/
def Fm (w0 w : World) (mv : Value) (vs : List Value) (ds : List Df) (st : List Sr) (F : Ft) : Prop :=
  ∃ fs : Nat → Ft, w.ownsRow w0.heap.size 69 1 mv vs.length (flatG ifC vs) ∧ Fam (fun w i G => Sh w w0.heap.size (vs.getD i .nilIface) (ds.getD i (false, 0)).1 (ds.getD i (false, 0)).2 (st.getD i Sr.nil) G) w vs.length fs ∧ (∀ i, i < vs.length → Apt (ftV mv) (fs i)) ∧ (∀ i, i < vs.length → Since w0 (fs i)) ∧ F = fun k => ftV mv k ∨ unF vs.length fs k
section
variable {w0 w w' : World} {mv : Value} {vs : List Value} {ds : List Df} {st : List Sr} {F G : Ft}
theorem Fm.lies (h : Fm w0 w mv vs ds st F) : Lies w F := by
  obtain ⟨fs, h1, h2, _, _, rfl⟩ := h
  rintro k (e | ⟨i, hi, e⟩)
  · exact (h1.lt k e).2
  · exact h2.li i hi k e
theorem Fm.since (h : Fm w0 w mv vs ds st F) : Since w0 F := by
  obtain ⟨fs, h1, _, _, h4, rfl⟩ := h
  rintro k (e | ⟨i, hi, e⟩)
  · exact (h1.lt k e).1
  · exact h4 i hi k e
theorem Fm.keeps (h : Fm w0 w mv vs ds st F) (hc : Chg w w' G) (ha : Apt G F) : Fm w0 w' mv vs ds st F := by
  obtain ⟨fs, h1, h2, h3, h4, rfl⟩ := h
  exact ⟨fs, own_chg h1 hc (fun k hk e => ha k e (.inl hk)), h2.keeps hc (fun j hj g => g.keeps hc (fun k e1 e2 => ha k e1 (.inr ⟨j, hj, e2⟩))), h3, h4, rfl⟩
theorem Fm.nil : Fm w0 w (.slice none 0 0) [] ds st (fun k => ftV (.slice none 0 0) k ∨ unF 0 (fun _ _ => False) k) := ⟨_, World.ownsRow_nil _ _ _ _, Fam.nil, fun i h => by simp at h, fun i h => by simp at h, rfl⟩
/-- One shard more: made, then laid at the row's end. -/
theorem Fm.more (h : Fm w0 w mv vs ds st F) (hst : ∀ i, st.getD i Sr.nil = Sr.nil) {w1 w2 : World} {mv2 p : Value} {G : Ft} {o : Obj} (hw : w0.heap.size ≤ w.heap.size) (hb : Below w.heap.size w w1) (hs : Sh w1 w.heap.size p (ds.getD vs.length (false, 0)).1 (ds.getD vs.length (false, 0)).2 Sr.nil G) (hG : Since w G) (hown : w2.ownsRow w0.heap.size 69 1 mv2 (vs.length + 1) (flatG ifC vs ++ ifC p)) (hgr : (w1.alloc o).grownBy w2 mv.ownBlock) (hnb : mv2.ownBlock = mv.ownBlock ∨ mv2.ownBlock = some (w1.alloc o).heap.size) :
    ∃ F', Fm w0 w2 mv2 (vs ++ [p]) ds st F' ∧ Nx w w2 F F' := by
  obtain ⟨fs, h1, h2, h3, h4, rfl⟩ := h
  have hc : Chg w w2 (ftV mv) := (Chg.of_below hb).trans (chg_append hgr) (fun k _ e => e)
  have hc2 : Chg w1 w2 (ftV mv) := chg_append hgr
  have hz1 : w1.heap.size ≤ (w1.alloc o).heap.size := (below_allocG w1 o).size
  have hG1 := hs.lies
  have hmG : Apt (ftV mv) G := fun k e1 e2 => by have := (h1.lt k e1).2; have := hG k e2; omega
  have hm2 : ∀ k, ftV mv2 k → ftV mv k ∨ w1.heap.size ≤ k := fun k hk => by
    unfold ftV at hk
    rcases hnb with e | e
    · left; rw [e] at hk; exact hk
    · right; rw [e] at hk; have := Option.some.inj hk; omega
  have hl : (vs ++ [p]).length = vs.length + 1 := by simp
  have hzb := hb.size
  refine ⟨_, ⟨upd fs vs.length G, ?_, ?_, ?_, ?_, rfl⟩, hc.mono (fun k e => .inl e), ?_⟩
  · rw [hl, flatG_more]; exact hown
  · rw [hl]
    refine Fam.more (P := fun w i G => Sh w w0.heap.size (vs.getD i .nilIface) (ds.getD i (false, 0)).1 (ds.getD i (false, 0)).2 (st.getD i Sr.nil) G) h2 (Nat.le_trans hzb hc2.size) hG ((hs.keeps hc2 hmG).lies) ?_ (fun j hj hd => ?_)
    · show Sh w2 w0.heap.size ((vs ++ [p]).getD vs.length .nilIface) _ _ (st.getD vs.length Sr.nil) G
      rw [hst, show (vs ++ [p]).getD vs.length .nilIface = p by simp]
      exact (hs.low hw).keeps hc2 hmG
    · show Sh w2 w0.heap.size ((vs ++ [p]).getD j .nilIface) _ _ (st.getD j Sr.nil) (fs j)
      rw [show (vs ++ [p]).getD j .nilIface = vs.getD j .nilIface by simp [List.getElem?_append_left hj]]
      exact hd.keeps hc (h3 j hj)
  · intro i hi
    by_cases e : i = vs.length
    · subst e
      rw [upd_same]
      intro k e1 e2
      rcases hm2 k e1 with g | g
      · exact hmG k g e2
      · have := hG1 k e2; omega
    · rw [upd_other fs G e]
      have hi' : i < vs.length := by omega
      intro k e1 e2
      rcases hm2 k e1 with g | g
      · exact h3 i hi' k g e2
      · have := h2.li i hi' k e2; omega
  · intro i hi
    by_cases e : i = vs.length
    · subst e
      rw [upd_same]
      exact fun k hk => Nat.le_trans hw (hG k hk)
    · rw [upd_other fs G e]; exact h4 i (by omega)
  · rintro k (e | ⟨i, hi, e⟩)
    · rcases hm2 k e with g | g
      · exact .inl (.inl g)
      · exact .inr (by omega)
    · by_cases e' : i = vs.length
      · subst e'
        rw [upd_same] at e
        exact .inr (hG k e)
      · rw [upd_other fs G e'] at e
        exact .inl (.inr ⟨i, by omega, e⟩)
/-- One shard, to be called. -/
theorem Fm.at (h : Fm w0 w mv vs ds st F) {i : Nat} (hi : i < vs.length) : ∃ G, Sh w w0.heap.size (vs.getD i .nilIface) (ds.getD i (false, 0)).1 (ds.getD i (false, 0)).2 (st.getD i Sr.nil) G ∧ ∀ {w' : World} {s' : Sr} {G' : Ft}, Sh w' w0.heap.size (vs.getD i .nilIface) (ds.getD i (false, 0)).1 (ds.getD i (false, 0)).2 s' G' → Nx w w' G G' → w0.heap.size ≤ w.heap.size → i < st.length → ∃ F', Fm w0 w' mv vs ds (st.set i s') F' ∧ Nx w w' F F' := by
  obtain ⟨fs, h1, h2, h3, h4, rfl⟩ := h
  refine ⟨fs i, h2.ob i hi, fun {w' s' G'} hs hn hw hl => ?_⟩
  have hf := Nx.fam (n := vs.length) hi hn
  refine ⟨_, ⟨upd fs i G', own_chg h1 hn.chg (fun k hk e => h3 i hi k hk e), h2.step hi hn hs.lies ?_ (fun j hj hne g ha => ?_), fun j hj => ?_, fun j hj => ?_, rfl⟩, hn.chg.mono (fun k e => .inr ⟨i, hi, e⟩), ?_⟩
  · show Sh w' w0.heap.size (vs.getD i .nilIface) _ _ ((st.set i s').getD i Sr.nil) G'
    rw [getD_set_same hl]
    exact hs
  · show Sh w' w0.heap.size (vs.getD j .nilIface) _ _ ((st.set i s').getD j Sr.nil) (fs j)
    rw [getD_set_other (fun e => hne e.symm)]
    exact g.keeps hn.chg ha
  · by_cases e : j = i
    · subst e
      rw [upd_same]
      exact ((h3 j hj).symm.next (fun k hk => (h1.lt k hk).2) hn).symm
    · rw [upd_other fs G' e]; exact h3 j hj
  · by_cases e : j = i
    · subst e
      rw [upd_same]
      exact (h4 j hj).next hw hn
    · rw [upd_other fs G' e]; exact h4 j hj
  · rintro k (e | e)
    · exact .inl (.inl e)
    · rcases hf.new k e with g | g
      · exact .inl (.inr g)
      · exact .inr g
end
/-- The blocks of the replies' pairs. -/
def Kf (us : List (Ry × Value)) : Ft := fun k => ∃ x ∈ us, ftV x.2 k
/-- The five. -/
def Pz (w0 : World) (a : Nat) (o : On) (mv : Value) (vs : List Value) (ds : List Df) (st : List Sr) (tv : Value) (L : List Rt) (gv : Value) (ws us : List (Ry × Value)) (w : World) (i : Nat) (F : Ft) : Prop := match i with
  | 0 => Lz w0 w a F o
  | 1 => Fm w0 w mv vs ds st F
  | 2 => RoRt w w0.heap.size tv L ∧ F = ftV tv
  | 3 => w.ownsRow w0.heap.size 50 14 gv ws.length (flatG rpG ws) ∧ F = ftV gv
  | _ => (∀ x ∈ us, RoPp w w0.heap.size x.2 x.1.ps) ∧ F = Kf us
section
variable {w0 w w' : World} {a : Nat} {o o' : On} {mv : Value} {vs : List Value} {ds : List Df} {st : List Sr} {tv : Value} {L : List Rt} {gv : Value} {ws us : List (Ry × Value)} {F G : Ft} {Fs : Nat → Ft}
theorem Pz.keeps {i : Nat} (h : Pz w0 a o mv vs ds st tv L gv ws us w i F) (hc : Chg w w' G) (ha : Apt G F) (hs : Since w0 G) : Pz w0 a o mv vs ds st tv L gv ws us w' i F := by
  unfold Pz at h ⊢
  split at h
  · exact h.keeps hc ha hs
  · exact h.keeps hc ha
  · obtain ⟨h1, rfl⟩ := h; exact ⟨own_chg h1 hc (fun k hk e => ha k e hk), rfl⟩
  · obtain ⟨h1, rfl⟩ := h; exact ⟨own_chg h1 hc (fun k hk e => ha k e hk), rfl⟩
  · obtain ⟨h1, rfl⟩ := h; exact ⟨fun x hx => own_chg (h1 x hx) hc (fun k hk e => ha k e ⟨x, hx, hk⟩), rfl⟩
theorem Pz.since {i : Nat} (h : Pz w0 a o mv vs ds st tv L gv ws us w i F) : Since w0 F := by
  unfold Pz at h
  split at h
  · exact h.since
  · exact h.since
  · obtain ⟨h1, rfl⟩ := h; exact own_since h1 (Nat.le_refl _)
  · obtain ⟨h1, rfl⟩ := h; exact own_since h1 (Nat.le_refl _)
  · obtain ⟨h1, rfl⟩ := h; rintro k ⟨x, hx, hk⟩; exact own_since (h1 x hx) (Nat.le_refl _) k hk
/-- The owner, the shards, what was taken, what was got, the pairs: apart. -/
def Oz (w0 w : World) (a : Nat) (o : On) (mv : Value) (vs : List Value) (ds : List Df) (st : List Sr) (tv : Value) (L : List Rt) (gv : Value) (ws us : List (Ry × Value)) (Fs : Nat → Ft) : Prop := Fam (Pz w0 a o mv vs ds st tv L gv ws us) w 5 Fs
theorem Oz.own (h : Oz w0 w a o mv vs ds st tv L gv ws us Fs) : Lz w0 w a (Fs 0) o := h.ob 0 (by omega)
theorem Oz.be (h : Oz w0 w a o mv vs ds st tv L gv ws us Fs) : Below w0.heap.size w0 w := h.own.be
theorem Oz.fm (h : Oz w0 w a o mv vs ds st tv L gv ws us Fs) : Fm w0 w mv vs ds st (Fs 1) := h.ob 1 (by omega)
theorem Oz.tk (h : Oz w0 w a o mv vs ds st tv L gv ws us Fs) : RoRt w w0.heap.size tv L := (h.ob 2 (by omega)).1
theorem Oz.gt (h : Oz w0 w a o mv vs ds st tv L gv ws us Fs) : w.ownsRow w0.heap.size 50 14 gv ws.length (flatG rpG ws) := (h.ob 3 (by omega)).1
theorem Oz.ps (h : Oz w0 w a o mv vs ds st tv L gv ws us Fs) : ∀ x ∈ us, RoPp w w0.heap.size x.2 x.1.ps := (h.ob 4 (by omega)).1
theorem Oz.below (h : Oz w0 w a o mv vs ds st tv L gv ws us Fs) (hb : Below w.heap.size w w') : Oz w0 w' a o mv vs ds st tv L gv ws us Fs :=
  Fam.keeps h (Chg.of_below (S := fun _ => False) hb) (fun j hj g => g.keeps (Chg.of_below (S := fun _ => False) hb) (fun _ e => e.elim) (fun _ e => e.elim))
/-- The owner went a step. -/
theorem Oz.goOwn (h : Oz w0 w a o mv vs ds st tv L gv ws us Fs) {F' : Ft} (hl : Lz w0 w' a F' o') (hn : Nx w w' (Fs 0) F') : Oz w0 w' a o' mv vs ds st tv L gv ws us (upd Fs 0 F') :=
  Fam.step h (by omega) hn hl.lies hl (fun j hj hne g ha => by
    have := g.keeps hn.chg ha (Pz.since (h.ob 0 (by omega)))
    match j, hne with
    | 1, _ => exact this
    | 2, _ => exact this
    | 3, _ => exact this
    | 4, _ => exact this
    | j + 5, _ => omega)
/-- The owner went a step, and handed out a reply. -/
theorem Oz.goRep (h : Oz w0 w a o mv vs ds st tv L gv ws us Fs) {F' : Ft} (hl : Lz w0 w' a F' o') (hn : Nx w w' (Fs 0) F') {p : Ry} {u : Value} (hu : RoPp w' w.heap.size u p.ps) (ha : Apt F' (ftV u)) : ∃ Gs, Oz w0 w' a o' mv vs ds st tv L gv ws (us ++ [(p, u)]) Gs := by
  have h1 := h.goOwn hl hn
  have hw : w0.heap.size ≤ w.heap.size := h.be.size
  have hnew : ∀ k, Kf (us ++ [(p, u)]) k → Kf us k ∨ ftV u k := by
    rintro k ⟨x, hx, hk⟩
    rcases List.mem_append.1 hx with g | g
    · exact .inl ⟨x, g, hk⟩
    · rw [List.mem_singleton.1 g] at hk; exact .inr hk
  have e4 : upd Fs 0 F' 4 = Kf us := (h1.ob 4 (by omega)).2
  have hold : ∀ j, j < 5 → j ≠ 4 → Apt (ftV u) (upd Fs 0 F' j) := fun j hj hne => by
    by_cases e : j = 0
    · subst e; rw [upd_same]; exact ha.symm
    · rw [upd_other Fs F' e]
      intro k e1 e2
      have := (hu.lt k e1).1
      have := h.li j hj k e2
      omega
  have hK : ∀ j, j < 5 → j ≠ 4 → Apt (Kf (us ++ [(p, u)])) (upd Fs 0 F' j) := fun j hj hne k e1 e2 => by
    rcases hnew k e1 with g | g
    · exact h1.ap 4 j (by omega) hj (fun e => hne e.symm) k (by rw [e4]; exact g) e2
    · exact hold j hj hne k g e2
  refine ⟨upd (upd Fs 0 F') 4 (Kf (us ++ [(p, u)])), fun j hj => ?_, fun j hj => ?_, fun j k hj hk hne => ?_⟩
  · by_cases e : j = 4
    · subst e
      rw [upd_same]
      refine ⟨fun x hx => ?_, rfl⟩
      rcases List.mem_append.1 hx with g | g
      · exact h1.ps x g
      · rw [List.mem_singleton.1 g]; exact own_lowG hu hw
    · rw [upd_other _ _ e]
      have := h1.ob j hj
      match j, e with
      | 0, _ => exact this
      | 1, _ => exact this
      | 2, _ => exact this
      | 3, _ => exact this
      | j + 5, _ => omega
  · by_cases e : j = 4
    · subst e
      rw [upd_same]
      intro k hk
      rcases hnew k hk with g | g
      · exact h1.li 4 (by omega) k (by rw [e4]; exact g)
      · exact (hu.lt k g).2
    · rw [upd_other _ _ e]; exact h1.li j hj
  · by_cases e : j = 4
    · subst e
      rw [upd_same, upd_other _ _ (fun e => hne e.symm)]
      exact hK k hk (fun e => hne e.symm)
    · rw [upd_other _ _ e]
      by_cases e2 : k = 4
      · subst e2
        rw [upd_same]
        exact (hK j hj e).symm
      · rw [upd_other _ _ e2]; exact h1.ap j k hj hk hne
theorem nx_append {ob : Obj} {v v2 : Value} (hgr : (w.alloc ob).grownBy w' v.ownBlock) (hnb : v2.ownBlock = v.ownBlock ∨ v2.ownBlock = some (w.alloc ob).heap.size) : Nx w w' (ftV v) (ftV v2) :=
  ⟨chg_append hgr, fun k hk => by
    have hz1 : w.heap.size ≤ (w.alloc ob).heap.size := (below_allocG w ob).size
    unfold ftV at hk
    rcases hnb with e | e
    · rw [e] at hk; exact .inl hk
    · rw [e] at hk; have := Option.some.inj hk; exact .inr (by omega)⟩
/-- A request is taken. -/
theorem Oz.take (h : Oz w0 w a o mv vs ds st tv L gv ws us Fs) {tv2 : Value} {q : Rt} (hown : w'.ownsRow w0.heap.size 45 7 tv2 (L.length + 1) (flatG rtC L ++ rtC q)) {ob : Obj} (hgr : (w.alloc ob).grownBy w' tv.ownBlock) (hnb : tv2.ownBlock = tv.ownBlock ∨ tv2.ownBlock = some (w.alloc ob).heap.size) : ∃ Gs, Oz w0 w' a o mv vs ds st tv2 (L ++ [q]) gv ws us Gs := by
  have hr : RoRt w' w0.heap.size tv2 (L ++ [q]) := by unfold RoRt; rw [List.length_append, flatG_more]; exact hown
  have e2 : Fs 2 = ftV tv := (h.ob 2 (by omega)).2
  have hn := nx_append hgr hnb
  rw [← e2] at hn
  refine ⟨_, Fam.step h (i := 2) (by omega) hn (fun k hk => (hr.lt k hk).2) ⟨hr, rfl⟩ (fun j hj hne g ha => ?_)⟩
  have := g.keeps hn.chg ha (Pz.since (h.ob 2 (by omega)))
  match j, hne with
  | 0, _ => exact this
  | 1, _ => exact this
  | 3, _ => exact this
  | 4, _ => exact this
  | j + 5, _ => omega
/-- A reply is laid down. -/
theorem Oz.lay (h : Oz w0 w a o mv vs ds st tv L gv ws us Fs) {gv2 : Value} {x : Ry × Value} (hown : w'.ownsRow w0.heap.size 50 14 gv2 (ws.length + 1) (flatG rpG ws ++ rpG x)) {ob : Obj} (hgr : (w.alloc ob).grownBy w' gv.ownBlock) (hnb : gv2.ownBlock = gv.ownBlock ∨ gv2.ownBlock = some (w.alloc ob).heap.size) : ∃ Gs, Oz w0 w' a o mv vs ds st tv L gv2 (ws ++ [x]) us Gs := by
  have hr : w'.ownsRow w0.heap.size 50 14 gv2 (ws ++ [x]).length (flatG rpG (ws ++ [x])) := by rw [List.length_append, flatG_more]; exact hown
  have e2 : Fs 3 = ftV gv := (h.ob 3 (by omega)).2
  have hn := nx_append hgr hnb
  rw [← e2] at hn
  refine ⟨_, Fam.step h (i := 3) (by omega) hn (fun k hk => (hr.lt k hk).2) ⟨hr, rfl⟩ (fun j hj hne g ha => ?_)⟩
  have := g.keeps hn.chg ha (Pz.since (h.ob 3 (by omega)))
  match j, hne with
  | 0, _ => exact this
  | 1, _ => exact this
  | 2, _ => exact this
  | 4, _ => exact this
  | j + 5, _ => omega
/-- The shards went a step. -/
theorem Oz.goFm (h : Oz w0 w a o mv vs ds st tv L gv ws us Fs) {mv2 : Value} {vs2 : List Value} {st2 : List Sr} {F' : Ft} (hl : Fm w0 w' mv2 vs2 ds st2 F') (hn : Nx w w' (Fs 1) F') : Oz w0 w' a o mv2 vs2 ds st2 tv L gv ws us (upd Fs 1 F') :=
  Fam.step h (by omega) hn hl.lies hl (fun j hj hne g ha => by
    have := g.keeps hn.chg ha (Pz.since (h.ob 1 (by omega)))
    match j, hne with
    | 0, _ => exact this
    | 2, _ => exact this
    | 3, _ => exact this
    | 4, _ => exact this
    | j + 5, _ => omega)
def startF (F0 : Ft) : Nat → Ft
  | 0 => F0
  | 1 => fun k => ftV (.slice none 0 0) k ∨ unF 0 (fun _ _ => False) k
  | 2 => ftV (.slice none 0 0)
  | 3 => ftV (.slice none 0 0)
  | _ => Kf []
theorem startF_no {F0 : Ft} {j : Nat} (hj : j ≠ 0) (k : Nat) : ¬ startF F0 j k := by
  have hno : ¬ ftV (.slice none 0 0) k := fun e => by cases e
  match j, hj with
  | 1, _ => rintro (e | ⟨i, hi, _⟩); exact hno e; omega
  | 2, _ => exact hno
  | 3, _ => exact hno
  | j + 4, _ => rintro ⟨x, hx, _⟩; simp at hx
/-- At the start. -/
theorem Oz.start {F0 : Ft} (h : Lz w0 w a F0 o) : Oz w0 w a o (.slice none 0 0) [] ds st (.slice none 0 0) [] (.slice none 0 0) [] [] (startF F0) := by
  refine ⟨fun j hj => ?_, fun j hj k hk => ?_, fun j i hj hi hne k e1 e2 => ?_⟩
  · match j with
    | 0 => exact h
    | 1 => exact Fm.nil
    | 2 => exact ⟨World.ownsRow_nil _ _ _ _, rfl⟩
    | 3 => exact ⟨World.ownsRow_nil _ _ _ _, rfl⟩
    | j + 4 => exact ⟨by simp, rfl⟩
  · by_cases e : j = 0
    · subst e; exact h.lies k hk
    · exact (startF_no e k hk).elim
  · by_cases e : j = 0
    · exact startF_no (fun e' => hne (e.trans e'.symm)) k e2
    · exact startF_no e k e1
end
end Go.Proofs.Ytpbfgebecgikjaa
namespace Go.Proofs.Ytpbfgebecgikjaa
open Go.RowKit
set_option linter.unusedVariables false
set_option linter.unusedSimpArgs false
set_option maxRecDepth 100000
theorem Sh.ifc {w : World} {B : Nat} {v : Value} {κ : Bool} {cap : Nat} {s : Sr} {F : Ft} (h : Sh w B v κ cap s F) : ∃ t u, v = .iface t u ∧ ∀ fuel wx, (nilAhead (fuel + 1) t u "Do").run Try.prog wx = .ok (some false) wx := by
  rcases h with ⟨_, b, ev, _⟩ | ⟨_, l, ev, _⟩
  · exact ⟨_, _, ev, fun fuel wx => ahead_book fuel _ wx⟩
  · exact ⟨_, _, ev, fun fuel wx => ahead_lru fuel _ wx⟩
theorem infoIf22 : (Try.prog.info? 69).map (fun i => (i.zero, i.size, i.bytes)) = some (some .nilIface, 1, 16) := by kernel_rfl
theorem infoRp : (Try.prog.info? 50).map (fun i => (i.zero, i.size, i.bytes)) = some (some (.agg (rpC Ry.nil (.slice none 0 0)).toArray), 14, 128) := by kernel_rfl
theorem if_one (t : TypeId) (u : Value) : ∀ x ∈ ifC (.iface t u), x.oneCell' = true := by
  intro x hx
  rw [List.mem_singleton.1 hx]
  rfl
theorem rp_one (p : Ry) (a : Option Addr) (n c : Nat) : ∀ x ∈ rpC p (.slice a n c), x.oneCell' = true := by
  intro x hx
  simp only [rpC, List.mem_cons, List.not_mem_nil, or_false] at hx
  rcases hx with rfl | rfl | rfl | rfl | rfl | rfl | rfl | rfl | rfl | rfl | rfl | rfl | rfl | rfl <;> rfl
theorem dfAt {w : World} {a : Option Addr} {n cap : Nat} {l : List (Int × Int)} (h : SeesG dfC 2 (0, 0) w (.slice a n cap) l) {j : Nat} (hj : j < l.length) : ∃ p off, a = some ⟨p, off, none⟩ ∧ w.cell? ⟨p, off + j * 2, none⟩ = some (.int .i64 (l.getD j (0, 0)).1) ∧ w.cell? ⟨p, off + j * 2 + 1, none⟩ = some (.int .i64 (l.getD j (0, 0)).2) := by
  obtain ⟨a', cap', ev, _, _, _, hat⟩ := h
  simp only [Value.slice.injEq] at ev
  obtain ⟨rfl, _, rfl⟩ := ev
  obtain ⟨p, off, rfl, _, hc⟩ := hat (fun e => by rw [e] at hj; simp at hj)
  exact ⟨p, off, rfl, hc j hj 0 (by omega), hc j hj 1 (by omega)⟩
def slN : Value → Nat
  | .slice _ n _ => n
  | _ => 0
/-- What New of an owner was asked for. -/
theorem newO_parts {s n : Int} {es : List (Int × Int)} {o : On} (h : newO s n es = some o) : (1 ≤ n ∧ n ≤ 4) ∧ (0 ≤ s ∧ s < n) ∧ es.length ≤ 4 ∧ o.Ok ∧ o.n = n.toNat ∧ o.sh = s.toNat ∧ o.st.length = es.length ∧ o.ds.length = es.length ∧ (∀ i, o.st.getD i Sr.nil = Sr.nil) ∧ ∀ i, i < es.length → (es.getD i (0, 0)).1 = (if (o.ds.getD i (false, 0)).1 = true then 1 else 0) ∧ (es.getD i (0, 0)).2 = (o.ds.getD i (false, 0)).2 ∧ 1 ≤ (o.ds.getD i (false, 0)).2 ∧ (o.ds.getD i (false, 0)).2 ≤ 16 := by
  obtain ⟨h1, h2, h3, ds, h4, rfl, h6⟩ := newO_some h
  obtain ⟨g1, g2⟩ := allDf_some h4
  refine ⟨h1, h2, h3, h6, rfl, rfl, ?_, g1, fun i => ?_, fun i hi => mkDf_some (g2 i hi)⟩
  · show (List.replicate ds.length Sr.nil).length = _
    rw [List.length_replicate, g1]
  · show (List.replicate ds.length Sr.nil).getD i Sr.nil = _
    by_cases hi : i < ds.length
    · simp [List.getD, List.getElem?_replicate, hi]
    · simp [List.getD, List.getElem?_replicate, hi]
section
variable {w0 w w' : World} {a : Nat} {o o' : On} {mv : Value} {vs : List Value} {ds : List Df} {st : List Sr} {tv : Value} {L : List Rt} {gv : Value} {ws us : List (Ry × Value)} {F G : Ft} {Fs : Nat → Ft}
theorem Fm.shape (h : Fm w0 w mv vs ds st F) : ∃ ma mc, mv = .slice ma vs.length mc := by
  obtain ⟨fs, h1, _⟩ := h
  exact own_shape h1
theorem Fm.row (h : Fm w0 w mv vs ds st F) : w.ownsRow w0.heap.size 69 1 mv vs.length (flatG ifC vs) := by
  obtain ⟨fs, h1, _⟩ := h
  exact h1
/-- The value of a shard in the row. -/
theorem Fm.cell {p q n c : Nat} (h : Fm w0 w (.slice (some ⟨p, q, none⟩) n c) vs ds st F) {i : Nat} (hi : i < vs.length) : w.cell? ⟨p, q + i, none⟩ = some (vs.getD i .nilIface) := by
  obtain ⟨a', cap', ev, _, _, _, hat⟩ := own_seesG ifC_len .nilIface h.row
  simp only [Value.slice.injEq] at ev
  obtain ⟨rfl, _, rfl⟩ := ev
  obtain ⟨p', off, ev, _, hc⟩ := hat (fun e => by rw [e] at hi; simp at hi)
  simp only [Option.some.injEq, Addr.mk.injEq, and_true] at ev
  obtain ⟨rfl, rfl⟩ := ev
  have := hc i hi 0 (by omega)
  rw [Nat.mul_one, Nat.add_zero] at this
  exact this
theorem Oz.goFm' (h : Oz w0 w a o mv vs ds st tv L gv ws us Fs) {mv2 : Value} {vs2 : List Value} {st2 : List Sr} (hx : ∃ F', Fm w0 w' mv2 vs2 ds st2 F' ∧ Nx w w' (Fs 1) F') : ∃ Gs, Oz w0 w' a o mv2 vs2 ds st2 tv L gv ws us Gs := by
  obtain ⟨F', h1, h2⟩ := hx
  exact ⟨_, h.goFm h1 h2⟩
theorem Fm.addr {xa : Option Addr} {n c : Nat} (h : Fm w0 w (.slice xa n c) vs ds st F) {i : Nat} (hi : i < vs.length) : ∃ p q, xa = some ⟨p, q, none⟩ := by
  obtain ⟨a', cap', ev, _, _, _, hat⟩ := own_seesG ifC_len .nilIface h.row
  simp only [Value.slice.injEq] at ev
  obtain ⟨rfl, _, rfl⟩ := ev
  obtain ⟨p', off, ev, _, _⟩ := hat (fun e => by rw [e] at hi; simp at hi)
  exact ⟨p', off, ev⟩
/-- A reply in the row. -/
theorem got_addr {B : Nat} {ga : Option Addr} {n gc : Nat} {R : List (Ry × Value)} (h : w.ownsRow B 50 14 (.slice ga n gc) R.length (flatG rpG R)) {j : Nat} {x : Ry × Value} (hx : R[j]? = some x) : ∃ p q, ga = some ⟨p, q, none⟩ := by
  have hj := (List.getElem?_eq_some_iff.1 hx).1
  obtain ⟨a', cap', ev, _, _, _, hat⟩ := own_seesG rpG_len (Ry.nil, .slice none 0 0) h
  simp only [Value.slice.injEq] at ev
  obtain ⟨rfl, _, rfl⟩ := ev
  obtain ⟨p', off, ev, _, _⟩ := hat (fun e => by rw [e] at hj; simp at hj)
  exact ⟨p', off, ev⟩
theorem got_at {B : Nat} {p q : Nat} {n gc : Nat} {R : List (Ry × Value)} (h : w.ownsRow B 50 14 (.slice (some ⟨p, q, none⟩) n gc) R.length (flatG rpG R)) {j : Nat} {x : Ry × Value} (hx : R[j]? = some x) : w.rangeAt p (q + j * 14) (rpC x.1 x.2) := by
  have hj := (List.getElem?_eq_some_iff.1 hx).1
  obtain ⟨a', cap', ev, _, _, _, hat⟩ := own_seesG rpG_len (Ry.nil, .slice none 0 0) h
  simp only [Value.slice.injEq] at ev
  obtain ⟨rfl, _, rfl⟩ := ev
  obtain ⟨p', off, ev, _, hc⟩ := hat (fun e => by rw [e] at hj; simp at hj)
  simp only [Option.some.injEq, Addr.mk.injEq, and_true] at ev
  obtain ⟨rfl, rfl⟩ := ev
  have hg : R.getD j (Ry.nil, .slice none 0 0) = x := by rw [List.getD_eq_getElem?_getD, hx]; rfl
  intro i v hv
  have hi : i < 14 := (List.getElem?_eq_some_iff.1 hv).1
  have := hc j hj i hi
  rw [hg] at this
  exact this.trans hv
/-- A block apart from the five is written. -/
theorem Oz.set (h : Oz w0 w a o mv vs ds st tv L gv ws us Fs) {n : Nat} (hn : ∀ i, i < 5 → ¬ Fs i n) (h0 : w0.heap.size ≤ n) (hc : Chg w w' (fun k => k = n)) : Oz w0 w' a o mv vs ds st tv L gv ws us Fs :=
  Fam.keeps h hc (fun j hj g => g.keeps hc (fun k e1 e2 => hn j hj (by rw [← (show k = n from e1)]; exact e2)) (fun k e => by rw [show k = n from e]; exact h0))
theorem Oz.goDo (h : Oz w0 w a o mv vs ds st tv L gv ws us Fs) {st2 : List Sr} (hx : ∃ F', Fm w0 w' mv vs ds st2 F' ∧ Nx w w' (Fs 1) F') : ∃ Gs, Oz w0 w' a o mv vs ds st2 tv L gv ws us Gs ∧ ∀ n, n < w.heap.size → (∀ i, i < 5 → ¬ Fs i n) → ∀ i, i < 5 → ¬ Gs i n := by
  obtain ⟨F', h1, h2⟩ := hx
  refine ⟨_, h.goFm h1 h2, fun n hn hno i hi e => ?_⟩
  by_cases e1 : i = 1
  · subst e1
    rw [upd_same] at e
    rcases h2.new n e with g | g
    · exact hno 1 (by omega) g
    · omega
  · rw [upd_other Fs F' e1] at e
    exact hno i hi e
theorem Oz.new (h : Oz w0 w a o mv vs ds st tv L gv ws us Fs) {n : Nat} (hn : w.heap.size ≤ n) : ∀ i, i < 5 → ¬ Fs i n := fun i hi e => by
  have := h.li i hi n e
  omega
/-- A request that was taken may be served: its map is there, its key belongs here. -/
theorem On.takes_at {q : Rt} (h : o.takes q = true) : ∃ k : Nat, q.m = k ∧ k < o.st.length ∧ (q.wk = false → ofL q.k o.n = o.sh) := by
  obtain ⟨k, e, hk⟩ := On.hasM_nat (On.takes_m h)
  refine ⟨k, e, hk, fun hw => ?_⟩
  simp only [On.takes, Bool.and_eq_true, hw, Bool.false_or, On.here, decide_eq_true_eq] at h
  exact h.2.2
end
end Go.Proofs.Ytpbfgebecgikjaa
namespace Go.Proofs.Ytpbfgebecgikjaa
open Go.RowKit
set_option linter.unusedVariables false
set_option linter.unusedSimpArgs false
set_option maxRecDepth 100000
set_option maxHeartbeats 25600000 in
theorem ownerOrders_ok (s n : Int) (mv : Value) (es : List (Int × Int)) (qv : Value) (qs : List Rt) (cv : Value) (cs : List Int) (w : World) (hm : SeesG dfC 2 (0, 0) w mv es) (hs : SeesG rtC 7 Rt.nil w qv qs) (hwf : ∀ q ∈ qs, q.wf) (hc : Sees .i64 w cv cs) :
    Calls Try.prog 4 #[shV s n mv, qv, cv] w fun e w' => e = .returned (.bool true) ∧ Below w.heap.size w w' := by
  obtain ⟨ma, mc, ev, hml, hmm⟩ := hm.shape
  subst ev
  obtain ⟨qa, qc, ev, hql, hqm⟩ := hs.shape
  subst ev
  obtain ⟨i0, hi0, hz0, hzs, hzb⟩ := info_parts infoRt
  obtain ⟨i1, hi1, hz1, hzs1, hzb1⟩ := info_parts infoIf22
  obtain ⟨i2, hi2, hz2, hzs2, hzb2⟩ := info_parts infoRp
  obtain ⟨X, HX, HBX, HPX⟩ : ∃ X, Hid (w.alloc (.cells #[.int .i64 s, .int .i64 n, .slice ma es.length mc] 24) = X) ∧ Hid (Below w.heap.size w X) ∧ Hid (Hp X w.heap.size 24 [.int .i64 s, .int .i64 n, .slice ma es.length mc]) := ⟨_, rfl, below_allocG _ _, Hp.new w _ _⟩
  have HMV : Hid (∀ wx, Below X.heap.size X wx → SeesG dfC 2 (0, 0) wx (.slice ma es.length mc) es) := fun wx hb => hm.below (HBX.out.trans (hb.mono HBX.out.size)) (Nat.le_refl _)
  have HQV : Hid (∀ wx, Below X.heap.size X wx → SeesG rtC 7 Rt.nil wx (.slice qa qs.length qc) qs) := fun wx hb => hs.below (HBX.out.trans (hb.mono HBX.out.size)) (Nat.le_refl _)
  have HCV : Hid (∀ wx, Below X.heap.size X wx → Sees .i64 wx cv cs) := fun wx hb => hc.below (HBX.out.trans (hb.mono HBX.out.size)) (Nat.le_refl _)
  have HWF := keepG hwf
  obtain ⟨ca, cc, ev⟩ := hc.shape
  subst ev
  have hcl : cs.length ≤ 9223372036854775807 := by obtain ⟨_, _, e, h1, h2, _⟩ := hc; unfold maxLen at h2; omega
  have HBC : Hid (∀ wx, Below X.heap.size X wx → wx.cell? ⟨w.heap.size, 0, none⟩ = some (.int .i64 s) ∧ wx.cell? ⟨w.heap.size, 1, none⟩ = some (.int .i64 n) ∧ wx.cell? ⟨w.heap.size, 2, none⟩ = some (.slice ma es.length mc)) := by
    intro wx hb
    have h := HPX.out.below hb HPX.out.lt
    exact ⟨h.cell (j := 0) rfl, h.cell (j := 1) rfl, h.cell (j := 2) rfl⟩
  have HEND : Hid (∀ wx, Below X.heap.size X wx → Below w.heap.size w wx) := fun wx hb => HBX.out.trans (hb.mono HBX.out.size)
  obtain ⟨nb, HNB⟩ : ∃ nb, Hid (w.heap.size = nb) := ⟨_, rfl⟩
  have HBC2 : Hid (∀ wx, Below X.heap.size X wx → wx.cell? ⟨nb, 0, none⟩ = some (.int .i64 s) ∧ wx.cell? ⟨nb, 1, none⟩ = some (.int .i64 n) ∧ wx.cell? ⟨nb, 2, none⟩ = some (.slice ma es.length mc)) := by rw [← HNB.out]; exact HBC.out
  clear hm hs hwf hc HBC
  go_enter Try.func4, Try.ntmps4
  cases hn : newO s n es with
  | none =>
    have HN := keepG hn
    clear hn
    go_wp2_with (first
      | (go_at_call 7; rw [HX.out, HNB.out]; go_must (refine (awake22_any X).mono ?_); rintro e w1 ⟨rfl, hb1⟩; go_must (have HB1 := keepG hb1; obtain ⟨c0, c1, c2⟩ := HBC2.out w1 hb1; clear hb1))
      | (go_at_call 8; go_must (refine (lonew_no s n w1 (HMV.out w1 HB1.out) HN).mono ?_); rintro e w2 ⟨rfl, hb2⟩; go_must (have HB2 := keepG (HB1.out.trans (hb2.mono HB1.out.size)); clear hb2)))
    go_ret
    exact ⟨rfl, HEND.out _ HB2.out⟩
  | some o =>
    have HN := keepG hn
    obtain ⟨hol, hov, hon, _⟩ := newO_line hn
    obtain ⟨hn4, hs4, he4, hok, hnn, hss, hst, hdl, hs0, hdf⟩ := newO_parts hn
    have HOL := keepG hol
    have HOV := keepG hov
    have HON := keepG hon
    have HOK := keepG hok
    have HNN := keepG hnn
    have HSS := keepG hss
    have HST := keepG hst
    have HDL := keepG hdl
    have HS0 := keepG hs0
    have HDF := keepG hdf
    clear hn hol hov hon hok hnn hss hst hdl hs0 hdf
    by_cases hlong : 2000 < qs.length
    · have hlI : (2000 : Int) < qs.length := by omega
      go_wp2_with (first
        | (go_at_call 7; rw [HX.out, HNB.out]; go_must (refine (awake22_any X).mono ?_); rintro e w1 ⟨rfl, hb1⟩; go_must (have HB1 := keepG hb1; obtain ⟨c0, c1, c2⟩ := HBC2.out w1 hb1; clear hb1))
        | (go_at_call 8; go_must (refine (lznew_ok s n HB1.out (HMV.out w1 HB1.out) HN).mono ?_); rintro e w2 ⟨a, F0, rfl, hL, _, _⟩; go_must (have HL2 := keepG hL; clear hL)))
      go_ret
      exact ⟨rfl, HEND.out _ HL2.out.be⟩
    have hlI : ¬ (2000 : Int) < qs.length := by omega
    go_wp2_with (first
      | (go_at_call 7; rw [HX.out, HNB.out]; go_must (refine (awake22_any X).mono ?_); rintro e w1 ⟨rfl, hb1⟩; go_must (have HB1 := keepG hb1; obtain ⟨c0, c1, c2⟩ := HBC2.out w1 hb1; clear hb1))
      | (go_at_call 8; go_must (refine (lznew_ok s n HB1.out (HMV.out w1 HB1.out) HN).mono ?_); rintro e w2 ⟨a, F0, rfl, hL, _, _⟩; go_must (have HL2 := keepG (Oz.start (ds := o.ds) (st := o.st) hL); clear hL)))
    clear HB1 hlI
    go_loopw [9, 10] (fun m i wr => ∃ (j : Nat) (vs : List Value) (Fs : Nat → Ft), j ≤ es.length ∧ i = .int .i64 j ∧ vs.length = j ∧ Hid (Oz X wr a o m vs o.ds o.st (.slice none 0 0) [] (.slice none 0 0) [] [] Fs)) (fun _ i _ => es.length - (intOf i).toNat)
    case atStart => exact ⟨0, [], _, by omega, rfl, rfl, HL2.out⟩
    case round =>
      clear HL2
      obtain ⟨j, vs, Fs, hj, rfl, hvl, HM⟩ := hrel
      rename World => wr
      obtain ⟨c0, c1, c2⟩ := HBC2.out wr HM.out.be
      obtain ⟨xa, xc, ev⟩ := HM.out.fm.shape
      subst ev
      by_cases hlt : j < es.length
      · have hltI : (j : Int) < es.length := by omega
        obtain ⟨p, off, ev, d0, d1⟩ := dfAt (HMV.out wr HM.out.be) hlt
        subst ev
        obtain ⟨e1, e2, e3, e4⟩ := HDF.out j hlt
        rw [e1] at d0
        rw [e2] at d1
        have HMK := keepG (lmake_ok (o.ds.getD j (false, 0)).1 (o.ds.getD j (false, 0)).2 e3 e4 wr)
        have HDJ : Hid (o.ds.getD vs.length (false, 0) = o.ds.getD j (false, 0)) := by show _ = _; rw [hvl]
        obtain ⟨d, HD⟩ : ∃ d, Hid (o.ds.getD j (false, 0) = d) := ⟨_, rfl⟩
        rw [HD.out] at HMK d0 d1 HDJ
        obtain ⟨kk, HKK⟩ : ∃ kk : Int, Hid ((if d.1 = true then (1 : Int) else 0) = kk) := ⟨_, rfl⟩
        rw [HKK.out] at HMK d0
        have hvb : vs.length ≤ 4 := by omega
        have HVL := keepG hvl
        clear e1 e2 e3 e4 hvl
        go_wp2_with (first
          | (go_at_call 23; go_must (refine HMK.out.mono ?_); rintro e w3 ⟨v, Fb, rfl, hL, hS, hb3⟩; go_must (obtain ⟨tv, uv, ev, -⟩ := hL.ifc; subst ev; have hnil : ∀ wx, (binOp .eql 69 (.iface tv uv) .nilIface).run Try.prog wx = .ok (.bool false) wx := (fun wx => by rfl); have HL3 := keepG hL; have HS3 := keepG hS; have HB3 := keepG hb3; have HR3 := keepG (own_below HM.out.fm.row hb3 (Nat.le_refl _)); clear hL hS hb3))
          | (at_builtin; go_must (refine wpList_append_own_at _ rfl (.tmp 77) (.tmp 79) 67 rfl X.heap.size 69 i1 _ 1 16 Try.underlying67 hi1 hz1 hzs1 hzb1 rfl (by decide) (.slice xa vs.length xc) vs.length (flatG ifC vs) rfl (HR3.out.alloc _) ⟨_, 0, none⟩ 1 1 (ifC (.iface tv uv)) rfl rfl (cells_new _ (ifC (.iface tv uv)) _ _ rfl) (if_one tv uv) (by unfold maxLen; omega) (by omega) (by have := HM.out.be.size; have := HB3.out.size; simp; omega) ?_); intro v4 w4 hown hgr _ hnew; go_must (have HM4 := keepG (HM.out.goFm' (HM.out.fm.more HS0.out HM.out.be.size HB3.out (by rw [HDJ.out]; exact HL3.out) HS3.out hown hgr hnew)); clear hown hgr hnew)))
        obtain ⟨Gs, hM4⟩ := HM4.out
        go_roundw
        case rel => exact ⟨j + 1, vs ++ [Value.iface tv uv], Gs, by omega, by go_num, by rw [List.length_append, HVL.out]; rfl, keepG hM4⟩
        case measure => simp [intOf]; omega
      · have hltI : ¬ (j : Int) < es.length := by omega
        obtain rfl : j = es.length := by omega
        have HVL := keepG hvl
        clear hj hlt hvl
        go_wp2
        go_loopw [13, 14, 15] (fun tv gv i wr => ∃ (j : Nat) (L : List Rt) (R : List (Ry × Value)) (o1 : On) (Fs : Nat → Ft), j ≤ qs.length ∧ i = .int .i64 j ∧ L.length ≤ j ∧ Hid (Oz X wr a o1 (.slice xa vs.length xc) vs o.ds o.st tv L gv R R Fs ∧ Pg o L (R.map Prod.fst) o1 ∧ ∀ q ∈ L, q.wf)) (fun _ _ i _ => qs.length - (intOf i).toNat)
        case atStart => exact ⟨0, [], [], o, Fs, Nat.zero_le _, rfl, Nat.le_refl _, HM.out, Pg.start HOL.out, by simp⟩
        case round =>
          clear HM
          obtain ⟨j, L, R, o1, Fs, hj, rfl, hLj, HC⟩ := hrel
          rename World => wr
          by_cases hlt : j < qs.length
          · have hltI : (j : Int) < qs.length := by omega
            obtain ⟨p, off, ev, hat⟩ := rtAt (HQV.out wr HC.out.1.be) hlt
            subst ev
            obtain ⟨q, HQ⟩ : ∃ q, Hid (qs.getD j Rt.nil = q) := ⟨_, rfl⟩
            obtain ⟨d0, d1, d2, d3, d4, d5, d6⟩ := hat j hlt q HQ.out
            have hqw := HWF.out _ (getD_memR2 qs j hlt)
            rw [HQ.out] at hqw
            have hRL := HC.out.2.1.le
            have hln := HC.out.2.1.ln
            have HZS : Hid ((o1.ln.length + [q].length) * 56 ≤ 140737488355328) := by show _ ≤ _; rw [hln, List.length_drop]; simp; omega
            obtain ⟨Z, HZ, hbZ, HSZ⟩ : ∃ Z, Hid (wr.alloc (.cells #[.int .i64 q.f, .int .i64 q.t, .bool q.wk, .int .i64 q.m, .int .i64 q.op, .int .u64 q.k, .int .u64 q.v] 45) = Z) ∧ Below wr.heap.size wr Z ∧ Hid (SeesG rtC 7 Rt.nil Z (.slice (some ⟨wr.heap.size, 0, none⟩) 1 1) [q]) := ⟨_, rfl, below_allocG _ _, lit_rts wr [q] (by simp)⟩
            have HCZ := keepG (HC.out.1.below hbZ)
            have HAZ := keepG (HC.out.1.own.aptN (α := Rt) (ws := [q]) (v := .slice (some ⟨wr.heap.size, 0, none⟩) 1 1) (fun k e => ft_litO e))
            have HW1 : Hid (∀ x ∈ [q], x.wf) := by intro x hx; rw [List.mem_singleton.1 hx]; exact hqw
            obtain ⟨hps, hpn⟩ := HC.out.2.1.send HOV.out q
            obtain ⟨ta, tc, ev⟩ := own_shape HC.out.1.tk
            subst ev
            clear hat hbZ
            cases ht : o.takes q with
            | true =>
              obtain ⟨o2, hsd, hpg⟩ := hps ht
              have HS1 := keepG hsd
              have HPG := keepG hpg
              clear ht hps hpn hsd hpg
              go_wp2_with (first
                | (go_at_call 10; rw [HZ.out]; go_must (refine (HCZ.out.own.send HZS HSZ.out HW1.out HAZ.out HS1).mono ?_); rintro e w5 ⟨rfl, F5, hL5, hn5⟩; go_must (have HC5 := keepG (HCZ.out.goOwn hL5 hn5); obtain ⟨p', off', ev, hat⟩ := rtAt (HQV.out w5 HC5.out.be) hlt; (have ev := Option.some.inj ev); (injection ev with ev1 ev2 _); subst ev1 ev2; obtain ⟨f0, f1, f2, f3, f4, f5, f6⟩ := hat j hlt q HQ.out; clear hL5 hn5 hat))
                | (at_builtin; go_must (refine wpList_append_own_at _ rfl (.tmp 95) (.tmp 100) 34 rfl X.heap.size 45 i0 _ 7 56 Try.underlying34 hi0 hz0 hzs hzb rfl (by decide) (.slice ta L.length tc) L.length (flatG rtC L) rfl (HC5.out.tk.alloc _) ⟨_, 0, none⟩ 1 1 (rtC q) rfl rfl (cells_new _ (rtC q) _ _ rfl) (rt_one q) (by unfold maxLen; omega) (by omega) (by have := HC5.out.be.size; simp; omega) ?_); intro v6 w6 hown hgr _ hnew; go_must (have HC6 := keepG (HC5.out.take (q := q) hown hgr hnew); obtain ⟨va, vc, ev⟩ := own_shape hown; subst ev; clear hown hgr hnew)))
              obtain ⟨Gs, hC6⟩ := HC6.out
              have HWL : Hid (∀ x ∈ L ++ [q], x.wf) := by
                intro x hx
                rcases List.mem_append.1 hx with g | g
                · exact HC.out.2.2 x g
                · exact HW1.out x g
              have HC7 : Hid (Oz X w6 a o2 (.slice xa vs.length xc) vs o.ds o.st (.slice va (L.length + 1) vc) (L ++ [q]) _ R R Gs ∧ Pg o (L ++ [q]) (R.map Prod.fst) o2) := ⟨hC6, HPG.out⟩
              have hLj2 : (L ++ [q]).length ≤ j + 1 := by simp; omega
              have hLE : L.length + 1 = (L ++ [q]).length := by simp
              rw [hLE] at HC7
              simp only [hLE]
              clear hC6 HC6 HC5 HCZ HC HPG hLj hRL hln hLE
              generalize L ++ [q] = L2 at *
              generalize o2 = o3 at *
              go_loopw [14, 16] (fun gv k wz => ∃ (z : Nat) (R : List (Ry × Value)) (o4 : On) (Hs : Nat → Ft), z ≤ 3 ∧ k = .int .i64 z ∧ Hid (Oz X wz a o4 (.slice xa vs.length xc) vs o.ds o.st (.slice va L2.length vc) L2 gv R R Hs ∧ Pg o L2 (R.map Prod.fst) o4)) (fun _ k _ => 3 - (intOf k).toNat)
              case atStart => exact ⟨0, R, o3, _, by omega, rfl, HC7.out⟩
              case round =>
                clear HC7
                obtain ⟨z, R, o4, Hs, hz, rfl, HD⟩ := hrel
                rename World => wz
                by_cases hjc : j < cs.length
                · have hjcI : (j : Int) < cs.length := by omega
                  have hjcd : decide ((j : Int) < cs.length) = true := by simpa using hjcI
                  obtain ⟨a', cap', ev, _, _, _, _, hcc⟩ := HCV.out wz HD.out.1.be
                  simp only [Value.slice.injEq] at ev
                  obtain ⟨rfl, -, rfl⟩ := ev
                  obtain ⟨pc, oc, ev, _, hat⟩ := hcc (fun e => by rw [e] at hjc; simp at hjc)
                  subst ev
                  have g0 := hat j hjc
                  obtain ⟨cj, HCJ⟩ : ∃ cj, Hid (cs.getD j 0 = cj) := ⟨_, rfl⟩
                  rw [HCJ.out] at g0
                  clear hat hcc
                  by_cases hzc : (z : Int) < cj
                  · have hzcd : decide ((z : Int) < cj) = true := by simpa using hzc
                    by_cases hz3 : z < 3
                    · have hz3I : (z : Int) < 3 := by omega
                      have hz3d : decide ((z : Int) < 3) = true := by simpa using hz3I
                      obtain ⟨ga, gc, ev⟩ := own_shape HD.out.1.gt
                      subst ev
                      have hRle := HD.out.2.le
                      rw [List.length_map] at hRle
                      have HZC : Hid (o4.ln.length * 56 ≤ 140737488355328) := by show _ ≤ _; rw [HD.out.2.ln, List.length_drop]; omega
                      by_cases hRL : R.length < L2.length
                      · obtain ⟨p, o5, hsp, hpg⟩ := HD.out.2.step (by rw [List.length_map]; exact hRL)
                        obtain ⟨q, x, ps⟩ := p
                        obtain ⟨qf, qt, qw, qm, qo, qk, qz⟩ := q
                        obtain ⟨xE, xf, xv, xo, xk, xu⟩ := x
                        have HSP := keepG hsp
                        have HPG := keepG hpg
                        clear hsp hpg
                        go_wp2_with (first
                | (go_at_call 13; go_must (refine (HD.out.1.own.step HZC HSP).mono ?_); rintro e w6 ⟨a6, c6, rfl, F6, hL6, hn6, hr6, ha6⟩; go_must (unfold rpV; obtain ⟨Gs6, hM6⟩ := HD.out.1.goRep (p := ⟨⟨qf, qt, qw, qm, qo, qk, qz⟩, ⟨xE, xf, xv, xo, xk, xu⟩, ps⟩) hL6 hn6 hr6 ha6; obtain ⟨W7, HW7, hb7, HP7⟩ : ∃ W7, Hid (w6.alloc (.cells (rpC ⟨⟨qf, qt, qw, qm, qo, qk, qz⟩, ⟨xE, xf, xv, xo, xk, xu⟩, ps⟩ (.slice a6 ps.length c6)).toArray 50) = W7) ∧ Below w6.heap.size w6 W7 ∧ Hid (Hp W7 w6.heap.size 50 (rpC ⟨⟨qf, qt, qw, qm, qo, qk, qz⟩, ⟨xE, xf, xv, xo, xk, xu⟩, ps⟩ (.slice a6 ps.length c6))) := ⟨_, rfl, below_allocG _ _, Hp.new w6 _ _⟩; have HM7 := keepG (hM6.below hb7); obtain ⟨⟨y0, y1, y2, y3, y4, y5, y6⟩, y7, y8, y9, y10, y11, y12, y13⟩ := rp_cells HP7.out; clear hL6 hn6 hr6 ha6 hM6 hb7))
                | (rw [HW7.out])
                | (at_builtin; go_must (refine wpList_append_own_at _ rfl (.tmp 126) (.tmp 128) 75 rfl X.heap.size 50 i2 _ 14 128 Try.underlying75 hi2 hz2 hzs2 hzb2 rfl (by decide) (.slice ga R.length gc) R.length (flatG rpG R) rfl (HM7.out.gt.alloc _) ⟨_, 0, none⟩ 1 1 (rpG (⟨⟨qf, qt, qw, qm, qo, qk, qz⟩, ⟨xE, xf, xv, xo, xk, xu⟩, ps⟩, .slice a6 ps.length c6)) rfl rfl (cells_new _ (rpG (⟨⟨qf, qt, qw, qm, qo, qk, qz⟩, ⟨xE, xf, xv, xo, xk, xu⟩, ps⟩, .slice a6 ps.length c6)) _ _ rfl) (rp_one _ _ _ _) (by unfold maxLen; omega) (by omega) (by have := HM7.out.be.size; simp; omega) ?_); intro v8 w8 hown hgr _ hnew; go_must (have HM8 := keepG (HM7.out.lay (x := (⟨⟨qf, qt, qw, qm, qo, qk, qz⟩, ⟨xE, xf, xv, xo, xk, xu⟩, ps⟩, .slice a6 ps.length c6)) hown hgr hnew); obtain ⟨va8, vc8, ev⟩ := own_shape hown; subst ev; clear hown hgr hnew)))
                        obtain ⟨Gs8, hM8⟩ := HM8.out
                        go_roundw
                        case rel => exact ⟨z + 1, R ++ [(⟨⟨qf, qt, qw, qm, qo, qk, qz⟩, ⟨xE, xf, xv, xo, xk, xu⟩, ps⟩, .slice a6 ps.length c6)], o5, Gs8, by omega, by go_num, hM8, by rw [List.map_append]; exact HPG.out⟩
                        case measure => simp [intOf]; omega
                      · obtain ⟨hsp, _⟩ := HD.out.2.stop (by rw [List.length_map]; exact hRL)
                        obtain ⟨p, HPN⟩ : ∃ p, Hid (Ry.nil = p) := ⟨_, rfl⟩
                        rw [HPN.out] at hsp
                        obtain ⟨q, x, ps⟩ := p
                        obtain ⟨qf, qt, qw, qm, qo, qk, qz⟩ := q
                        obtain ⟨xE, xf, xv, xo, xk, xu⟩ := x
                        have HSP := keepG hsp
                        clear hsp
                        go_wp2_with (go_at_call 13; go_must (refine (HD.out.1.own.step HZC HSP).mono ?_); rintro e w6 ⟨a6, c6, rfl, F6, hL6, hn6, _, _⟩; go_must (unfold rpV; obtain ⟨W7, HW7, hb7⟩ : ∃ W7, Hid (w6.alloc (.cells (rpC ⟨⟨qf, qt, qw, qm, qo, qk, qz⟩, ⟨xE, xf, xv, xo, xk, xu⟩, ps⟩ (.slice a6 ps.length c6)).toArray 50) = W7) ∧ Below w6.heap.size w6 W7 := ⟨_, rfl, below_allocG _ _⟩; have HM7 := keepG ((HD.out.1.goOwn hL6 hn6).below hb7); clear hL6 hn6 hb7))
                        rw [HW7.out]
                        go_roundw
                        case rel => exact ⟨z + 1, R, o4, _, by omega, by go_num, HM7.out, HD.out.2⟩
                        case measure => simp [intOf]; omega
                    · have hz3I : ¬ (z : Int) < 3 := by omega
                      have hz3d : decide ((z : Int) < 3) = false := by simpa using hz3I
                      go_wp2
                      go_roundw
                      case rel => exact ⟨j + 1, L2, R, o4, Hs, by omega, by go_num, hLj2, HD.out.1, HD.out.2, HWL.out⟩
                      case measure => simp [intOf]; omega
                  · have hzcd : decide ((z : Int) < cj) = false := by simpa using hzc
                    go_wp2
                    go_roundw
                    case rel => exact ⟨j + 1, L2, R, o4, Hs, by omega, by go_num, hLj2, HD.out.1, HD.out.2, HWL.out⟩
                    case measure => simp [intOf]; omega
                · have hjcI : ¬ (j : Int) < cs.length := by omega
                  have hjcd : decide ((j : Int) < cs.length) = false := by simpa using hjcI
                  go_wp2
                  go_roundw
                  case rel => exact ⟨j + 1, L2, R, o4, Hs, by omega, by go_num, hLj2, HD.out.1, HD.out.2, HWL.out⟩
                  case measure => simp [intOf]; omega
            | false =>
              have HS1 := keepG (hpn ht)
              clear ht hps hpn
              have HWL := keepG HC.out.2.2
              have HPG := keepG HC.out.2.1
              have hLj2 : L.length ≤ j + 1 := by omega
              go_wp2_with (go_at_call 10; rw [HZ.out]; go_must (refine (HCZ.out.own.send HZS HSZ.out HW1.out HAZ.out HS1).mono ?_); rintro e w5 ⟨rfl, F5, hL5, hn5⟩; go_must (have HC7 := keepG (And.intro (HCZ.out.goOwn hL5 hn5) HPG.out); clear hL5 hn5))
              clear HCZ HC HPG hLj hRL hln
              go_loopw [14, 16] (fun gv k wz => ∃ (z : Nat) (R : List (Ry × Value)) (o4 : On) (Hs : Nat → Ft), z ≤ 3 ∧ k = .int .i64 z ∧ Hid (Oz X wz a o4 (.slice xa vs.length xc) vs o.ds o.st (.slice ta L.length tc) L gv R R Hs ∧ Pg o L (R.map Prod.fst) o4)) (fun _ k _ => 3 - (intOf k).toNat)
              case atStart => exact ⟨0, R, o1, _, by omega, rfl, HC7.out⟩
              case round =>
                clear HC7
                obtain ⟨z, R, o4, Hs, hz, rfl, HD⟩ := hrel
                rename World => wz
                by_cases hjc : j < cs.length
                · have hjcI : (j : Int) < cs.length := by omega
                  have hjcd : decide ((j : Int) < cs.length) = true := by simpa using hjcI
                  obtain ⟨a', cap', ev, _, _, _, _, hcc⟩ := HCV.out wz HD.out.1.be
                  simp only [Value.slice.injEq] at ev
                  obtain ⟨rfl, -, rfl⟩ := ev
                  obtain ⟨pc, oc, ev, _, hat⟩ := hcc (fun e => by rw [e] at hjc; simp at hjc)
                  subst ev
                  have g0 := hat j hjc
                  obtain ⟨cj, HCJ⟩ : ∃ cj, Hid (cs.getD j 0 = cj) := ⟨_, rfl⟩
                  rw [HCJ.out] at g0
                  clear hat hcc
                  by_cases hzc : (z : Int) < cj
                  · have hzcd : decide ((z : Int) < cj) = true := by simpa using hzc
                    by_cases hz3 : z < 3
                    · have hz3I : (z : Int) < 3 := by omega
                      have hz3d : decide ((z : Int) < 3) = true := by simpa using hz3I
                      obtain ⟨ga, gc, ev⟩ := own_shape HD.out.1.gt
                      subst ev
                      have hRle := HD.out.2.le
                      rw [List.length_map] at hRle
                      have HZC : Hid (o4.ln.length * 56 ≤ 140737488355328) := by show _ ≤ _; rw [HD.out.2.ln, List.length_drop]; omega
                      by_cases hRL : R.length < L.length
                      · obtain ⟨p, o5, hsp, hpg⟩ := HD.out.2.step (by rw [List.length_map]; exact hRL)
                        obtain ⟨q, x, ps⟩ := p
                        obtain ⟨qf, qt, qw, qm, qo, qk, qz⟩ := q
                        obtain ⟨xE, xf, xv, xo, xk, xu⟩ := x
                        have HSP := keepG hsp
                        have HPG := keepG hpg
                        clear hsp hpg
                        go_wp2_with (first
                | (go_at_call 13; go_must (refine (HD.out.1.own.step HZC HSP).mono ?_); rintro e w6 ⟨a6, c6, rfl, F6, hL6, hn6, hr6, ha6⟩; go_must (unfold rpV; obtain ⟨Gs6, hM6⟩ := HD.out.1.goRep (p := ⟨⟨qf, qt, qw, qm, qo, qk, qz⟩, ⟨xE, xf, xv, xo, xk, xu⟩, ps⟩) hL6 hn6 hr6 ha6; obtain ⟨W7, HW7, hb7, HP7⟩ : ∃ W7, Hid (w6.alloc (.cells (rpC ⟨⟨qf, qt, qw, qm, qo, qk, qz⟩, ⟨xE, xf, xv, xo, xk, xu⟩, ps⟩ (.slice a6 ps.length c6)).toArray 50) = W7) ∧ Below w6.heap.size w6 W7 ∧ Hid (Hp W7 w6.heap.size 50 (rpC ⟨⟨qf, qt, qw, qm, qo, qk, qz⟩, ⟨xE, xf, xv, xo, xk, xu⟩, ps⟩ (.slice a6 ps.length c6))) := ⟨_, rfl, below_allocG _ _, Hp.new w6 _ _⟩; have HM7 := keepG (hM6.below hb7); obtain ⟨⟨y0, y1, y2, y3, y4, y5, y6⟩, y7, y8, y9, y10, y11, y12, y13⟩ := rp_cells HP7.out; clear hL6 hn6 hr6 ha6 hM6 hb7))
                | (rw [HW7.out])
                | (at_builtin; go_must (refine wpList_append_own_at _ rfl (.tmp 126) (.tmp 128) 75 rfl X.heap.size 50 i2 _ 14 128 Try.underlying75 hi2 hz2 hzs2 hzb2 rfl (by decide) (.slice ga R.length gc) R.length (flatG rpG R) rfl (HM7.out.gt.alloc _) ⟨_, 0, none⟩ 1 1 (rpG (⟨⟨qf, qt, qw, qm, qo, qk, qz⟩, ⟨xE, xf, xv, xo, xk, xu⟩, ps⟩, .slice a6 ps.length c6)) rfl rfl (cells_new _ (rpG (⟨⟨qf, qt, qw, qm, qo, qk, qz⟩, ⟨xE, xf, xv, xo, xk, xu⟩, ps⟩, .slice a6 ps.length c6)) _ _ rfl) (rp_one _ _ _ _) (by unfold maxLen; omega) (by omega) (by have := HM7.out.be.size; simp; omega) ?_); intro v8 w8 hown hgr _ hnew; go_must (have HM8 := keepG (HM7.out.lay (x := (⟨⟨qf, qt, qw, qm, qo, qk, qz⟩, ⟨xE, xf, xv, xo, xk, xu⟩, ps⟩, .slice a6 ps.length c6)) hown hgr hnew); obtain ⟨va8, vc8, ev⟩ := own_shape hown; subst ev; clear hown hgr hnew)))
                        obtain ⟨Gs8, hM8⟩ := HM8.out
                        go_roundw
                        case rel => exact ⟨z + 1, R ++ [(⟨⟨qf, qt, qw, qm, qo, qk, qz⟩, ⟨xE, xf, xv, xo, xk, xu⟩, ps⟩, .slice a6 ps.length c6)], o5, Gs8, by omega, by go_num, hM8, by rw [List.map_append]; exact HPG.out⟩
                        case measure => simp [intOf]; omega
                      · obtain ⟨hsp, _⟩ := HD.out.2.stop (by rw [List.length_map]; exact hRL)
                        obtain ⟨p, HPN⟩ : ∃ p, Hid (Ry.nil = p) := ⟨_, rfl⟩
                        rw [HPN.out] at hsp
                        obtain ⟨q, x, ps⟩ := p
                        obtain ⟨qf, qt, qw, qm, qo, qk, qz⟩ := q
                        obtain ⟨xE, xf, xv, xo, xk, xu⟩ := x
                        have HSP := keepG hsp
                        clear hsp
                        go_wp2_with (go_at_call 13; go_must (refine (HD.out.1.own.step HZC HSP).mono ?_); rintro e w6 ⟨a6, c6, rfl, F6, hL6, hn6, _, _⟩; go_must (unfold rpV; obtain ⟨W7, HW7, hb7⟩ : ∃ W7, Hid (w6.alloc (.cells (rpC ⟨⟨qf, qt, qw, qm, qo, qk, qz⟩, ⟨xE, xf, xv, xo, xk, xu⟩, ps⟩ (.slice a6 ps.length c6)).toArray 50) = W7) ∧ Below w6.heap.size w6 W7 := ⟨_, rfl, below_allocG _ _⟩; have HM7 := keepG ((HD.out.1.goOwn hL6 hn6).below hb7); clear hL6 hn6 hb7))
                        rw [HW7.out]
                        go_roundw
                        case rel => exact ⟨z + 1, R, o4, _, by omega, by go_num, HM7.out, HD.out.2⟩
                        case measure => simp [intOf]; omega
                    · have hz3I : ¬ (z : Int) < 3 := by omega
                      have hz3d : decide ((z : Int) < 3) = false := by simpa using hz3I
                      go_wp2
                      go_roundw
                      case rel => exact ⟨j + 1, L, R, o4, Hs, by omega, by go_num, hLj2, HD.out.1, HD.out.2, HWL.out⟩
                      case measure => simp [intOf]; omega
                  · have hzcd : decide ((z : Int) < cj) = false := by simpa using hzc
                    go_wp2
                    go_roundw
                    case rel => exact ⟨j + 1, L, R, o4, Hs, by omega, by go_num, hLj2, HD.out.1, HD.out.2, HWL.out⟩
                    case measure => simp [intOf]; omega
                · have hjcI : ¬ (j : Int) < cs.length := by omega
                  have hjcd : decide ((j : Int) < cs.length) = false := by simpa using hjcI
                  go_wp2
                  go_roundw
                  case rel => exact ⟨j + 1, L, R, o4, Hs, by omega, by go_num, hLj2, HD.out.1, HD.out.2, HWL.out⟩
                  case measure => simp [intOf]; omega
          · have hltI : ¬ (j : Int) < qs.length := by omega
            have hLq : L.length ≤ 2000 := by omega
            have HWL := keepG HC.out.2.2
            obtain ⟨ta, tc, ev⟩ := own_shape HC.out.1.tk
            subst ev
            go_wp2
            go_loopw [14] (fun gv wz => ∃ (R : List (Ry × Value)) (o4 : On) (Hs : Nat → Ft), Hid (Oz X wz a o4 (.slice xa vs.length xc) vs o.ds o.st (.slice ta L.length tc) L gv R R Hs ∧ Pg o L (R.map Prod.fst) o4)) (fun gv _ => L.length - slN gv)
            case atStart => exact ⟨R, o1, Fs, HC.out.1, HC.out.2.1⟩
            case round =>
              clear HC
              obtain ⟨R, o4, Hs, HD⟩ := hrel
              rename World => wz
              obtain ⟨ga, gc, ev⟩ := own_shape HD.out.1.gt
              subst ev
              have hRle := HD.out.2.le
              rw [List.length_map] at hRle
              have HZC : Hid (o4.ln.length * 56 ≤ 140737488355328) := by show _ ≤ _; rw [HD.out.2.ln, List.length_drop]; omega
              by_cases hRL : R.length < L.length
              · have hRLI : (R.length : Int) < L.length := by omega
                obtain ⟨p, o5, hsp, hpg⟩ := HD.out.2.step (by rw [List.length_map]; exact hRL)
                obtain ⟨q, x, ps⟩ := p
                obtain ⟨qf, qt, qw, qm, qo, qk, qz⟩ := q
                obtain ⟨xE, xf, xv, xo, xk, xu⟩ := x
                have HSP := keepG hsp
                have HPG := keepG hpg
                clear hsp hpg
                go_wp2_with (first
              | (go_at_call 13; go_must (refine (HD.out.1.own.step HZC HSP).mono ?_); rintro e w6 ⟨a6, c6, rfl, F6, hL6, hn6, hr6, ha6⟩; go_must (unfold rpV; obtain ⟨Gs6, hM6⟩ := HD.out.1.goRep (p := ⟨⟨qf, qt, qw, qm, qo, qk, qz⟩, ⟨xE, xf, xv, xo, xk, xu⟩, ps⟩) hL6 hn6 hr6 ha6; obtain ⟨W7, HW7, hb7, HP7⟩ : ∃ W7, Hid (w6.alloc (.cells (rpC ⟨⟨qf, qt, qw, qm, qo, qk, qz⟩, ⟨xE, xf, xv, xo, xk, xu⟩, ps⟩ (.slice a6 ps.length c6)).toArray 50) = W7) ∧ Below w6.heap.size w6 W7 ∧ Hid (Hp W7 w6.heap.size 50 (rpC ⟨⟨qf, qt, qw, qm, qo, qk, qz⟩, ⟨xE, xf, xv, xo, xk, xu⟩, ps⟩ (.slice a6 ps.length c6))) := ⟨_, rfl, below_allocG _ _, Hp.new w6 _ _⟩; have HM7 := keepG (hM6.below hb7); obtain ⟨⟨y0, y1, y2, y3, y4, y5, y6⟩, y7, y8, y9, y10, y11, y12, y13⟩ := rp_cells HP7.out; clear hL6 hn6 hr6 ha6 hM6 hb7))
              | (rw [HW7.out])
              | (at_builtin; go_must (refine wpList_append_own_at _ rfl (.tmp 142) (.tmp 144) 75 rfl X.heap.size 50 i2 _ 14 128 Try.underlying75 hi2 hz2 hzs2 hzb2 rfl (by decide) (.slice ga R.length gc) R.length (flatG rpG R) rfl (HM7.out.gt.alloc _) ⟨_, 0, none⟩ 1 1 (rpG (⟨⟨qf, qt, qw, qm, qo, qk, qz⟩, ⟨xE, xf, xv, xo, xk, xu⟩, ps⟩, .slice a6 ps.length c6)) rfl rfl (cells_new _ (rpG (⟨⟨qf, qt, qw, qm, qo, qk, qz⟩, ⟨xE, xf, xv, xo, xk, xu⟩, ps⟩, .slice a6 ps.length c6)) _ _ rfl) (rp_one _ _ _ _) (by unfold maxLen; omega) (by omega) (by have := HM7.out.be.size; simp; omega) ?_); intro v8 w8 hown hgr _ hnew; go_must (have HM8 := keepG (HM7.out.lay (x := (⟨⟨qf, qt, qw, qm, qo, qk, qz⟩, ⟨xE, xf, xv, xo, xk, xu⟩, ps⟩, .slice a6 ps.length c6)) hown hgr hnew); obtain ⟨va8, vc8, ev⟩ := own_shape hown; subst ev; clear hown hgr hnew)))
                obtain ⟨Gs8, hM8⟩ := HM8.out
                go_roundw
                case rel => exact ⟨R ++ [(⟨⟨qf, qt, qw, qm, qo, qk, qz⟩, ⟨xE, xf, xv, xo, xk, xu⟩, ps⟩, .slice a6 ps.length c6)], o5, Gs8, hM8, by rw [List.map_append]; exact HPG.out⟩
                case measure => simp [slN]; omega
              · have hRLI : ¬ (R.length : Int) < L.length := by omega
                obtain ⟨hsp, hln⟩ := HD.out.2.stop (by rw [List.length_map]; exact hRL)
                obtain ⟨p, HPN⟩ : ∃ p, Hid (Ry.nil = p) := ⟨_, rfl⟩
                rw [HPN.out] at hsp
                obtain ⟨q, x, ps⟩ := p
                obtain ⟨qf, qt, qw, qm, qo, qk, qz⟩ := q
                obtain ⟨xE, xf, xv, xo, xk, xu⟩ := x
                have HSP := keepG hsp
                have HLN := keepG hln
                have HPF := keepG HD.out.2
                have HRE : Hid (R.length = L.length) := by show _ = _; omega
                clear hsp hln
                go_wp2_with (first
                  | (go_at_call 13; go_must (refine (HD.out.1.own.step HZC HSP).mono ?_); rintro e w6 ⟨a6, c6, rfl, F6, hL6, hn6, _, _⟩; go_must (unfold rpV; obtain ⟨W7, HW7, hb7⟩ : ∃ W7, Hid (w6.alloc (.cells (rpC ⟨⟨qf, qt, qw, qm, qo, qk, qz⟩, ⟨xE, xf, xv, xo, xk, xu⟩, ps⟩ (.slice a6 ps.length c6)).toArray 50) = W7) ∧ Below w6.heap.size w6 W7 := ⟨_, rfl, below_allocG _ _⟩; have HM7 := keepG ((HD.out.1.goOwn hL6 hn6).below hb7); clear hL6 hn6 hb7))
                  | (rw [HW7.out])
                  | (go_at_call 21; go_must (refine (HM7.out.own.waiting HZC HLN).mono ?_); rintro e w8 ⟨a8, c8, rfl, _, hb8⟩; go_must (have HM8 := keepG (HM7.out.below hb8); clear hb8)))
                clear HM7 HD HPN HW7 HSP
                go_loopw [23] (fun i wz => ∃ (jj : Nat) (st : List Sr) (Hs : Nat → Ft), jj ≤ L.length ∧ i = .int .i64 jj ∧ Hid (Oz X wz a o4 (.slice xa vs.length xc) vs o.ds st (.slice ta L.length tc) L (.slice ga R.length gc) R R Hs ∧ st = (o.after (L.take jj)).st)) (fun i _ => L.length - (intOf i).toNat)
                case atStart => exact ⟨0, o.st, _, Nat.zero_le _, rfl, HM8.out, rfl⟩
                case round =>
                  clear HM8
                  obtain ⟨jj, st, Hs, hjj, rfl, HD⟩ := hrel
                  rename World => wz
                  by_cases hjt : jj < L.length
                  · have hjtI : (jj : Int) < L.length := by omega
                    obtain ⟨pt, ot, ev, hat⟩ := rtAt HD.out.1.tk.sees hjt
                    subst ev
                    have hmem := getD_memR2 L jj hjt
                    have htk := HPF.out.tk _ hmem
                    have hqw := HWL.out _ hmem
                    have hpat := HPF.out.at (i := jj) (by rw [List.length_map, HRE.out]; exact hjt)
                    have hta := take_atR L jj hjt
                    have hok2 := after_ok (L.take jj) HOK.out (fun x hx => HPF.out.tk x (List.mem_of_mem_take hx))
                    obtain ⟨as1, -, -, -, as5⟩ := after_same (L.take jj) o
                    have hsv := after_app (L.getD jj Rt.nil) (L.take jj) o
                    rw [← hta] at hsv
                    obtain ⟨q, HQ⟩ : ∃ q, Hid (L.getD jj Rt.nil = q) := ⟨_, rfl⟩
                    obtain ⟨d0, d1, d2, d3, d4, d5, d6⟩ := hat jj hjt q HQ.out
                    rw [HQ.out] at htk hqw hpat hsv
                    obtain ⟨k, hqm, hk, hof⟩ := On.takes_at htk
                    have hst2 := HD.out.2
                    obtain ⟨on, HON2⟩ : ∃ on, Hid (o.after (L.take jj) = on) := ⟨_, rfl⟩
                    rw [HON2.out] at hpat hok2 as1 as5 hsv hst2
                    obtain ⟨tf, tt, wk, tm, top, tk, tz⟩ := q
                    simp only at hqm d0 d1 d2 d3 d4 d5 d6 hof
                    subst hqm
                    have hkv : k < vs.length := by rw [HVL.out, ← HST.out]; exact hk
                    have hkst : k < st.length := by rw [hst2, as1]; exact hk
                    have hinv := hok2.inv k (by rw [as5, HDL.out, ← HST.out]; exact hk)
                    rw [as5, ← hst2] at hinv
                    have HINV := keepG hinv
                    have HKV := keepG hkv
                    have HKS := keepG hkst
                    have HSV := keepG hsv
                    have HQW := keepG hqw
                    have HST2 := keepG hst2
                    obtain ⟨gx, hgx, hgp⟩ : ∃ x, R[jj]? = some x ∧ x.1 = (on.serve ⟨tf, tt, wk, (k : Int), top, tk, tz⟩ []).1 := by
                      rw [List.getElem?_map] at hpat
                      obtain ⟨x, h1, h2⟩ := Option.map_eq_some_iff.1 hpat
                      exact ⟨x, h1, h2⟩
                    obtain ⟨gp, gu⟩ := gx
                    have hgp : gp = (on.serve ⟨tf, tt, wk, (k : Int), top, tk, tz⟩ []).1 := hgp
                    obtain ⟨pg, og, ev⟩ := got_addr HD.out.1.gt hgx
                    subst ev
                    obtain ⟨pm, om, ev⟩ := HD.out.1.fm.addr hkv
                    subst ev
                    have HXR := keepG hgx
                    have HGP := keepG hgp
                    have hjRI : (jj : Int) < R.length := by rw [HRE.out]; exact hjtI
                    have hkI : ¬ (k : Int) < 0 := by omega
                    have hkId : decide ((k : Int) < 0) = false := by simp
                    have hkL : ¬ (vs.length : Int) ≤ k := by omega
                    have hkLd : decide ((vs.length : Int) ≤ k) = false := by simpa using hkL
                    obtain ⟨W1, HW1, HP1, HB1, HZ1⟩ : ∃ W1, Hid (wz.alloc (.cells #[.int .i64 tf, .int .i64 tt, .bool wk, .int .i64 k, .int .i64 top, .int .u64 tk, .int .u64 tz] 45) = W1) ∧ Hid (Hp W1 wz.heap.size 45 (rtC ⟨tf, tt, wk, (k : Int), top, tk, tz⟩)) ∧ Hid (Below wz.heap.size wz W1) ∧ Hid (W1.heap.size = wz.heap.size + 1) := ⟨_, rfl, Hp.new wz _ _, below_allocG _ _, by show _ = _; simp⟩
                    obtain ⟨nq, HNQ⟩ : ∃ nq, Hid (wz.heap.size = nq) := ⟨_, rfl⟩
                    obtain ⟨W2, HW2, HP2, HB2, HZ2⟩ : ∃ W2, Hid (W1.alloc (.cells #[.int .i64 tf, .int .i64 tt, .bool wk, .int .i64 k, .int .i64 top, .int .u64 tk, .int .u64 tz, .int .i64 0, .bool false, .int .u64 0, .bool false, .int .u64 0, .int .u64 0, .slice none 0 0] 50) = W2) ∧ Hid (Hp W2 W1.heap.size 50 (rpC ⟨⟨tf, tt, wk, (k : Int), top, tk, tz⟩, Rq.none, []⟩ (.slice none 0 0))) ∧ Hid (Below W1.heap.size W1 W2) ∧ Hid (W2.heap.size = W1.heap.size + 1) := ⟨_, rfl, Hp.new W1 _ _, below_allocG _ _, by show _ = _; simp⟩
                    obtain ⟨nw, HNW⟩ : ∃ nw, Hid (W1.heap.size = nw) := ⟨_, rfl⟩
                    have HQ2 := keepG (HP1.out.below HB2.out HP1.out.lt)
                    rw [HNQ.out] at HP1 HQ2
                    rw [HNW.out] at HP2
                    have hnqw : ¬ nq = nw := by have := HZ1.out; have := HNQ.out; have := HNW.out; omega
                    have hnwq : ¬ nw = nq := fun e => hnqw e.symm
                    have HM2 := keepG ((HD.out.1.below HB1.out).below HB2.out)
                    have HNO : Hid (∀ i, i < 5 → ¬ Hs i nw) := HD.out.1.new (by have := HZ1.out; have := HNW.out; omega)
                    have HNOQ : Hid (∀ i, i < 5 → ¬ Hs i nq) := HD.out.1.new (by have := HNQ.out; omega)
                    have hXw := HD.out.1.be.size
                    have HX0 : Hid (X.heap.size ≤ nw) := by show _ ≤ _; have := HZ1.out; have := HNW.out; omega
                    have HNL : Hid (nw < W2.heap.size ∧ nq < W2.heap.size) := ⟨HP2.out.lt, HQ2.out.lt⟩
                    have HQC : Hid (∀ wx : World, Hp wx nq 45 (rtC ⟨tf, tt, wk, (k : Int), top, tk, tz⟩) → wx.cell? ⟨nq, 0, none⟩ = some (.int .i64 tf) ∧ wx.cell? ⟨nq, 1, none⟩ = some (.int .i64 tt) ∧ wx.cell? ⟨nq, 2, none⟩ = some (.bool wk) ∧ wx.cell? ⟨nq, 3, none⟩ = some (.int .i64 k) ∧ wx.cell? ⟨nq, 4, none⟩ = some (.int .i64 top) ∧ wx.cell? ⟨nq, 5, none⟩ = some (.int .u64 tk) ∧ wx.cell? ⟨nq, 6, none⟩ = some (.int .u64 tz)) := fun wx h => ⟨h.cell (j := 0) rfl, h.cell (j := 1) rfl, h.cell (j := 2) rfl, h.cell (j := 3) rfl, h.cell (j := 4) rfl, h.cell (j := 5) rfl, h.cell (j := 6) rfl⟩
                    obtain ⟨s0, s1, s2, s3, s4, s5, s6⟩ := HQC.out W1 HP1.out
                    obtain ⟨t0, t1, t2, t3, t4, t5, t6⟩ := HQC.out W2 HQ2.out
                    have HFR := keepG (fun (wx : World) (h : Hp wx nw 50 (rpC ⟨⟨tf, tt, wk, (k : Int), top, tk, tz⟩, Rq.none, []⟩ (.slice none 0 0))) (i : Nat) => h.frozen i)
                    have HAS5 := keepG as5
                    have HOF0 := keepG hof
                    clear hof
                    clear hat hmem htk hqw hpat hta hok2 as1 as5 hsv hst2 hinv hgx hgp hkst
                    cases wk with
                    | true =>
                      have HPX : Hid (gp = ⟨⟨tf, tt, true, (k : Int), top, tk, tz⟩, Rq.none, (st.getD k Sr.nil).1⟩) := by show _ = _; rw [HGP.out, HST2.out]; rfl
                      have HNX : Hid ((o.after (L.take (jj + 1))).st = st) := by show _ = _; rw [HSV.out, HST2.out]; rfl
                      rw [HPX.out] at HXR
                      obtain ⟨G, hSh, -⟩ := HM2.out.fm.at HKV.out
                      obtain ⟨it, iu, hiv, -⟩ := hSh.ifc
                      obtain ⟨f, x, hvia, hcall⟩ := hSh.pairs HINV.out.1 HINV.out.2
                      rw [hiv] at hvia
                      obtain ⟨hme, hfe⟩ := hvia.fix
                      have m0 := HM2.out.fm.cell HKV.out
                      rw [hiv] at m0
                      have HCP := keepG hcall
                      obtain ⟨S1, HS1⟩ : ∃ S1, Hid ((st.getD k Sr.nil).1 = S1) := ⟨_, rfl⟩
                      rw [HS1.out] at HPX HCP HXR
                      clear hSh hvia hcall hiv
                      go_wp2_with (first
                        | (rw [HW1.out, HNQ.out])
                        | (rw [HW2.out, HNW.out])
                        | (refine HCP.out.mono ?_; rintro e w5 ⟨u5, rfl, hr5, hb5⟩; go_must (have HM5 := keepG (HM2.out.below hb5); have HP5 := keepG (HP2.out.below hb5 HP2.out.lt); have HR5 := keepG hr5; have z13 : w5.cell? ⟨nw, 13, none⟩ = some (.slice none 0 0) := HP5.out.cell (j := 13) rfl; have zf := HP5.out.frozen 13; obtain ⟨ua, uc, ev⟩ := own_shape hr5; subst ev; clear hr5 hb5)))
                      obtain ⟨W6, HW6, HM6, HP6, HSU⟩ : ∃ W6, Hid (w5.setCell ⟨nw, 13, none⟩ (.slice ua S1.length uc) = W6) ∧ Hid (Oz X W6 a o4 (.slice (some ⟨pm, om, none⟩) vs.length xc) vs o.ds st (.slice (some ⟨pt, ot, none⟩) L.length tc) L (.slice (some ⟨pg, og, none⟩) R.length gc) R R Hs) ∧ Hid (Hp W6 nw 50 (rpC ⟨⟨tf, tt, true, (k : Int), top, tk, tz⟩, Rq.none, S1⟩ (.slice ua S1.length uc))) ∧ Hid (SeesG ppC 2 Pp.nil W6 (.slice ua S1.length uc) (⟨⟨tf, tt, true, (k : Int), top, tk, tz⟩, Rq.none, S1⟩ : Ry).ps) := ⟨_, rfl, HM5.out.set HNO.out HX0.out (Chg.set _ _ _ _), HP5.out.set 13 (.slice ua S1.length uc), own_seesG ppC_len Pp.nil (own_chg HR5.out (Chg.set w5 nw 13 (.slice ua S1.length uc)) (fun k hk e => by have := (HR5.out.lt k hk).1; have := HNL.out.1; omega))⟩
                      rw [HW6.out]
                      have HGW := keepG (got_at HM6.out.gt HXR.out)
                      have HRW : Hid (∀ wx : World, Hp wx nw 50 (rpC ⟨⟨tf, tt, true, (k : Int), top, tk, tz⟩, Rq.none, S1⟩ (.slice ua S1.length uc)) → wx.rangeAt nw 0 (rpC ⟨⟨tf, tt, true, (k : Int), top, tk, tz⟩, Rq.none, S1⟩ (.slice ua S1.length uc))) := fun wx h => h.range (fun i _ => by rw [Nat.zero_add])
                      have HSG : Hid (SeesG ppC 2 Pp.nil W6.drew gu (⟨⟨tf, tt, true, (k : Int), top, tk, tz⟩, Rq.none, S1⟩ : Ry).ps) := own_seesG ppC_len Pp.nil (HM6.out.ps (⟨⟨tf, tt, true, (k : Int), top, tk, tz⟩, Rq.none, S1⟩, gu) (List.mem_of_getElem? HXR.out))
                      have HMD := keepG (HM6.out.below (below_drG (Below.refl W6.heap.size W6)))
                      go_wp2
                      refine wp_region_held_drew (S := fun w' => w'.rangeAt pg (og + jj * 14) (rpC ⟨⟨tf, tt, true, (k : Int), top, tk, tz⟩, Rq.none, S1⟩ gu) ∧ w'.rangeAt nw 0 (rpC ⟨⟨tf, tt, true, (k : Int), top, tk, tz⟩, Rq.none, S1⟩ (.slice ua S1.length uc))) (by kernel_rfl) ⟨HGW.out, HRW.out _ HP6.out⟩ (fun hHeld => ?_)
                      refine tkGo [0, 1, 2] ?_
                      repeat (refine tkOne (v := ?_) rfl (by kernel_rfl) (by kernel_rfl) (by kernel_rfl) (fun _ _ _ h => h) (by assumption) (by rfl) ?_ ?_; rotate_left; (intro wy hSw; (try dsimp only at hSw); go_simp; (first | done | with_reducible rfl)); try simp only [Act.put, List.getElem_toArray, List.getElem_cons_zero, List.getElem_cons_succ, List.setIfInBounds_toArray, List.set_cons_zero, List.set_cons_succ])
                      refine tkEnd ?_
                      refine wpAnyH_take (i := 3) rfl (by kernel_rfl) (by kernel_rfl) (by kernel_rfl) (fun _ _ _ h => h) (yieldsIf_load_mid (by rfl) _ _ rfl _ _ rfl (rpC ⟨⟨tf, tt, true, (k : Int), top, tk, tz⟩, Rq.none, S1⟩ gu) _ (fun w h => h.1) Try.underlying50 rfl (by kernel_rfl)) (by assumption) ?_
                      try simp only [Act.put, List.getElem_toArray, List.getElem_cons_zero, List.getElem_cons_succ, List.setIfInBounds_toArray, List.set_cons_zero, List.set_cons_succ]
                      refine wpAnyH_take (i := 4) rfl (by kernel_rfl) (by kernel_rfl) (by kernel_rfl) (fun _ _ _ h => h) (yieldsIf_load_mid (by rfl) _ _ rfl _ _ rfl (rpC ⟨⟨tf, tt, true, (k : Int), top, tk, tz⟩, Rq.none, S1⟩ (.slice ua S1.length uc)) _ (fun w h => h.2) Try.underlying50 rfl (by kernel_rfl)) (by assumption) ?_
                      try simp only [Act.put, List.getElem_toArray, List.getElem_cons_zero, List.getElem_cons_succ, List.setIfInBounds_toArray, List.set_cons_zero, List.set_cons_succ]
                      refine wpAnyH_ready (rs := [5]) (by kernel_rfl) (by simp) ?_
                      refine AllReadyH.cons rfl (fun KK hK => ?_) AllReadyH.nil
                      rw [if_pos (by rfl)]
                      go_simp
                      go_at_call 15
                      refine (walike (p := ⟨⟨tf, tt, true, (k : Int), top, tk, tz⟩, Rq.none, S1⟩) HSG.out HSU.out.drew).mono ?_
                      rintro e w9 ⟨rfl, hb9⟩
                      have HM9 := keepG (HMD.out.below hb9)
                      have HP9 := keepG (Hp.below (w := W6.drew) HP6.out.drew hb9 HP6.out.drew.lt)
                      clear hb9
                      go_simp
                      refine hK.out _ _ ⟨got_at HM9.out.gt HXR.out, HRW.out _ HP9.out⟩ (fun hHeld => ?_)
                      clear hK KK
                      try simp only [Act.put, List.getElem_toArray, List.getElem_cons_zero, List.getElem_cons_succ, List.setIfInBounds_toArray, List.set_cons_zero, List.set_cons_succ]
                      refine tkGo [6] ?_
                      repeat (refine tkOne (v := ?_) rfl (by kernel_rfl) (by kernel_rfl) (by kernel_rfl) (fun _ _ _ h => h) (by assumption) (by rfl) ?_ ?_; rotate_left; (intro wy hSw; (try dsimp only at hSw); go_simp; (first | done | with_reducible rfl)); try simp only [Act.put, List.getElem_toArray, List.getElem_cons_zero, List.getElem_cons_succ, List.setIfInBounds_toArray, List.set_cons_zero, List.set_cons_succ])
                      refine tkEnd ?_
                      refine wpAnyH_done (by kernel_rfl) ?_ _
                      clear hHeld
                      go_wp2
                      go_roundw
                      case rel => exact ⟨jj + 1, st, _, by omega, by go_num, HM9.out, HNX.out.symm⟩
                      case measure => simp [intOf]; omega
                    | false =>
                      obtain ⟨x, s5, HDO⟩ : ∃ x s5, Hid (doSh (o.ds.getD k (false, 0)).1 (o.ds.getD k (false, 0)).2 (st.getD k Sr.nil) top tk tz = (x, s5)) := ⟨_, _, rfl⟩
                      have hdf : on.df (k : Int) = o.ds.getD k (false, 0) := by unfold On.df; rw [HAS5.out]; rfl
                      have hsr : on.sr (k : Int) = st.getD k Sr.nil := by unfold On.sr; rw [HST2.out]; rfl
                      have HPX : Hid (gp = ⟨⟨tf, tt, false, (k : Int), top, tk, tz⟩, x, []⟩) := by show _ = _; rw [HGP.out]; unfold On.serve; simp only [Bool.false_eq_true, if_false, hdf, hsr, HDO.out]
                      have HNX : Hid ((o.after (L.take (jj + 1))).st = st.set k s5) := by show _ = _; rw [HSV.out]; unfold On.serve; simp only [Bool.false_eq_true, if_false, hdf, hsr, HDO.out]; rw [HST2.out]; rfl
                      rw [HPX.out] at HXR
                      have HOF : Hid (ofL tk n = s) := by show _ = _; have h := HOF0.out rfl; rw [HNN.out, HSS.out, Int.toNat_of_nonneg (by omega), Int.toNat_of_nonneg (by omega)] at h; exact h
                      obtain ⟨b0, b1, -⟩ := HBC2.out W2 HM2.out.be
                      have hss : (s != s) = false := by simp
                      clear hdf hsr
                      go_wp2_with (first
                        | (rw [HW1.out, HNQ.out])
                        | (rw [HW2.out, HNW.out]))
                      refine wp_region_held_drew (S := fun w' => w'.cell? ⟨nq, 5, none⟩ = some (.int .u64 tk) ∧ w'.cell? ⟨nb, 1, none⟩ = some (.int .i64 n) ∧ w'.cell? ⟨nb, 0, none⟩ = some (.int .i64 s)) (by kernel_rfl) ⟨t5, b1, b0⟩ (fun hHeld => ?_)
                      refine tkGo [0, 1, 2, 3, 4, 6, 7] ?_
                      repeat (refine tkOne (v := ?_) rfl (by kernel_rfl) (by kernel_rfl) (by kernel_rfl) (fun _ _ _ h => h) (by assumption) (by rfl) ?_ ?_; rotate_left; (intro wy hSw; (try dsimp only at hSw); go_simp; (first | done | with_reducible rfl)); try simp only [Act.put, List.getElem_toArray, List.getElem_cons_zero, List.getElem_cons_succ, List.setIfInBounds_toArray, List.set_cons_zero, List.set_cons_succ])
                      refine tkEnd ?_
                      refine wpAnyH_ready (rs := [5]) (by kernel_rfl) (by simp) ?_
                      refine AllReadyH.cons rfl (fun KK hK => ?_) AllReadyH.nil
                      rw [if_pos (by rfl)]
                      go_simp
                      go_at_call 24
                      refine (lof_any tk n W2.drew HQW.out (by omega)).mono ?_
                      rintro e w4 ⟨rfl, rfl⟩
                      rw [HOF.out]
                      go_simp
                      refine hK.out _ _ ⟨t5, b1, b0⟩ (fun hHeld => ?_)
                      clear hK KK
                      try simp only [Act.put, List.getElem_toArray, List.getElem_cons_zero, List.getElem_cons_succ, List.setIfInBounds_toArray, List.set_cons_zero, List.set_cons_succ]
                      refine tkGo [8] ?_
                      repeat (refine tkOne (v := ?_) rfl (by kernel_rfl) (by kernel_rfl) (by kernel_rfl) (fun _ _ _ h => h) (by assumption) (by rfl) ?_ ?_; rotate_left; (intro wy hSw; (try dsimp only at hSw); go_simp; (first | done | with_reducible rfl)); try simp only [Act.put, List.getElem_toArray, List.getElem_cons_zero, List.getElem_cons_succ, List.setIfInBounds_toArray, List.set_cons_zero, List.set_cons_succ])
                      refine tkEnd ?_
                      refine wpAnyH_done (by kernel_rfl) ?_ _
                      clear hHeld
                      obtain ⟨W3, HW3, HM3, HQ3, HP3, HZ3⟩ : ∃ W3, Hid (W2.drew = W3) ∧ Hid (Oz X W3 a o4 (.slice (some ⟨pm, om, none⟩) vs.length xc) vs o.ds st (.slice (some ⟨pt, ot, none⟩) L.length tc) L (.slice (some ⟨pg, og, none⟩) R.length gc) R R Hs) ∧ Hid (Hp W3 nq 45 (rtC ⟨tf, tt, false, (k : Int), top, tk, tz⟩)) ∧ Hid (Hp W3 nw 50 (rpC ⟨⟨tf, tt, false, (k : Int), top, tk, tz⟩, Rq.none, []⟩ (.slice none 0 0))) ∧ Hid (W3.heap.size = W2.heap.size) := ⟨_, rfl, HM2.out.below (below_drG (Below.refl W2.heap.size W2)), HQ2.out.drew, HP2.out.drew, rfl⟩
                      rw [HW3.out]
                      obtain ⟨r0, r1, r2, r3, r4, r5, r6⟩ := HQC.out W3 HQ3.out
                      have HM4 := keepG (HM3.out.below (below_drG (Below.refl W3.heap.size W3)))
                      obtain ⟨G, hSh, hnx⟩ := HM4.out.fm.at HKV.out
                      obtain ⟨it, iu, hiv, hah⟩ := hSh.ifc
                      obtain ⟨f, xx, hvia, hcall⟩ := hSh.do_any top tk tz HINV.out.1 HINV.out.2 HM4.out.be.size HDO
                      have HNXT : Hid (∀ {w5 : World} {G' : Ft}, Sh w5 X.heap.size (vs.getD k .nilIface) (o.ds.getD k (false, 0)).1 (o.ds.getD k (false, 0)).2 s5 G' → Nx W3.drew w5 G G' → ∃ F', Fm X w5 (.slice (some ⟨pm, om, none⟩) vs.length xc) vs o.ds (st.set k s5) F' ∧ Nx W3.drew w5 (Hs 1) F') := fun h1 h2 => hnx h1 h2 HM4.out.be.size HKS.out
                      rw [hiv] at hvia
                      obtain ⟨hme, hfe⟩ := hvia.fix
                      have m0 := HM3.out.fm.cell HKV.out
                      rw [hiv] at m0
                      have HIV := keepG hiv
                      have HCD := keepG hcall
                      obtain ⟨xE, xf, xv, xo, xk, xu⟩ := x
                      simp only at HCD
                      clear hSh hvia hcall hiv hnx
                      go_wp2
                      refine wp_region_held_drew (S := fun w' => w'.cell? ⟨pm, om + k, none⟩ = some (.iface it iu) ∧ w'.cell? ⟨nq, 3, none⟩ = some (.int .i64 k) ∧ w'.cell? ⟨nq, 4, none⟩ = some (.int .i64 top) ∧ w'.cell? ⟨nq, 5, none⟩ = some (.int .u64 tk) ∧ w'.cell? ⟨nq, 6, none⟩ = some (.int .u64 tz)) (by kernel_rfl) ⟨m0, r3, r4, r5, r6⟩ (fun hHeld => ?_)
                      refine tkGo [0, 1, 2, 3, 4, 5, 6, 7, 8, 9, 10, 11, 12, 13, 14] ?_
                      repeat (refine tkOne (v := ?_) rfl (by kernel_rfl) (by kernel_rfl) (by kernel_rfl) (fun _ _ _ h => h) (by assumption) (by rfl) ?_ ?_; rotate_left; (intro wy hSw; (try dsimp only at hSw); go_simp; (first | done | with_reducible rfl)); try simp only [Act.put, List.getElem_toArray, List.getElem_cons_zero, List.getElem_cons_succ, List.setIfInBounds_toArray, List.set_cons_zero, List.set_cons_succ])
                      refine tkEnd ?_
                      refine wpAnyH_ready (rs := [15]) (by kernel_rfl) (by simp) ?_
                      refine AllReadyH.cons rfl (fun KK hK => ?_) AllReadyH.nil
                      rw [if_pos (by rfl)]
                      go_simp
                      refine HCD.out.mono ?_
                      rintro e w5 ⟨rfl, F5, hS5, hn5⟩
                      obtain ⟨F6, hF6, hN6⟩ := HNXT.out hS5 hn5
                      obtain ⟨Gs5, hM5, hno5⟩ := HM4.out.goDo ⟨F6, hF6, hN6⟩
                      have HM5 := keepG hM5
                      have HNO5 : Hid (∀ i, i < 5 → ¬ Gs5 i nw) := hno5 nw (by show nw < W3.heap.size; rw [HZ3.out]; exact HNL.out.1) HNO.out
                      have HP5 := keepG (Hp.chg (w := W3.drew) HP3.out.drew hN6.chg (HNO.out 1 (by omega)))
                      have HQ5 := keepG (Hp.chg (w := W3.drew) HQ3.out.drew hN6.chg (HNOQ.out 1 (by omega)))
                      have m5 := HM5.out.fm.cell HKV.out
                      rw [HIV.out] at m5
                      obtain ⟨-, -, -, v3, v4, v5, v6⟩ := HQC.out w5 HQ5.out
                      clear hS5 hn5 hF6 hN6 hM5 hno5
                      dsimp only [resG]
                      go_simp
                      refine hK.out _ _ ⟨m5, v3, v4, v5, v6⟩ (fun hHeld => ?_)
                      clear hK KK
                      try simp only [Act.put, List.getElem_toArray, List.getElem_cons_zero, List.getElem_cons_succ, List.setIfInBounds_toArray, List.set_cons_zero, List.set_cons_succ]
                      have z7 : w5.cell? ⟨nw, 7, none⟩ = some (.int .i64 0) := HP5.out.cell (j := 7) rfl
                      have z8 : w5.cell? ⟨nw, 8, none⟩ = some (.bool false) := HP5.out.cell (j := 8) rfl
                      have z9 : w5.cell? ⟨nw, 9, none⟩ = some (.int .u64 0) := HP5.out.cell (j := 9) rfl
                      have z10 : w5.cell? ⟨nw, 10, none⟩ = some (.bool false) := HP5.out.cell (j := 10) rfl
                      have z11 : w5.cell? ⟨nw, 11, none⟩ = some (.int .u64 0) := HP5.out.cell (j := 11) rfl
                      have z12 : w5.cell? ⟨nw, 12, none⟩ = some (.int .u64 0) := HP5.out.cell (j := 12) rfl
                      have y7 := HP5.out.frozen 7
                      have y8 := HP5.out.frozen 8
                      have y9 := HP5.out.frozen 9
                      have y10 := HP5.out.frozen 10
                      have y11 := HP5.out.frozen 11
                      have y12 := HP5.out.frozen 12
                      obtain ⟨W6, HW6, HM6, HP6, HQ6⟩ : ∃ W6, Hid ((((((w5.setCell ⟨nw, 7, none⟩ (.int .i64 xE)).setCell ⟨nw, 8, none⟩ (.bool xf)).setCell ⟨nw, 9, none⟩ (.int .u64 xv)).setCell ⟨nw, 10, none⟩ (.bool xo)).setCell ⟨nw, 11, none⟩ (.int .u64 xk)).setCell ⟨nw, 12, none⟩ (.int .u64 xu) = W6) ∧ Hid (Oz X W6 a o4 (.slice (some ⟨pm, om, none⟩) vs.length xc) vs o.ds (st.set k s5) (.slice (some ⟨pt, ot, none⟩) L.length tc) L (.slice (some ⟨pg, og, none⟩) R.length gc) R R Gs5) ∧ Hid (Hp W6 nw 50 (rpC ⟨⟨tf, tt, false, (k : Int), top, tk, tz⟩, ⟨xE, xf, xv, xo, xk, xu⟩, []⟩ (.slice none 0 0))) ∧ Hid (Hp W6 nq 45 (rtC ⟨tf, tt, false, (k : Int), top, tk, tz⟩)) := ⟨_, rfl, HM5.out.set HNO5.out HX0.out (Chg.sets w5 nw 7 (resCG xE xf xv xo xk xu)), HP5.out.sets (resCG xE xf xv xo xk xu) 7, HQ5.out.fars hnqw (resCG xE xf xv xo xk xu) 7⟩
                      have HSU : Hid (SeesG ppC 2 Pp.nil W6 (.slice none 0 0) (⟨⟨tf, tt, false, (k : Int), top, tk, tz⟩, ⟨xE, xf, xv, xo, xk, xu⟩, []⟩ : Ry).ps) := SeesG.nil Pp.nil _
                      have m6 := HM6.out.fm.cell HKV.out
                      rw [HIV.out] at m6
                      obtain ⟨-, -, -, e3, e4, e5, e6⟩ := HQC.out W6 HQ6.out
                      refine tkGo [16] ?_
                      repeat (refine tkOne (v := ?_) rfl (by kernel_rfl) (by kernel_rfl) (by kernel_rfl) (fun _ _ _ h => h) (by assumption) (by rfl) ?_ ?_; rotate_left; (intro wy hSw; (try dsimp only at hSw); go_simp; (first | done | with_reducible rfl)); try simp only [Act.put, List.getElem_toArray, List.getElem_cons_zero, List.getElem_cons_succ, List.setIfInBounds_toArray, List.set_cons_zero, List.set_cons_succ])
                      refine tkEnd ?_
                      refine wpAnyH_ready (rs := [17]) (by kernel_rfl) (by simp) ?_
                      refine AllReadyH.cons rfl (fun KK hK => ?_) AllReadyH.nil
                      rw [if_pos (by rfl)]
                      go_simp
                      rw [HW6.out]
                      refine hK.out _ _ ⟨m6, e3, e4, e5, e6⟩ (fun hHeld => ?_)
                      clear hK KK
                      try simp only [Act.put, List.getElem_toArray, List.getElem_cons_zero, List.getElem_cons_succ, List.setIfInBounds_toArray, List.set_cons_zero, List.set_cons_succ]
                      refine wpAnyH_done (by kernel_rfl) ?_ _
                      clear hHeld
                      have HGW := keepG (got_at HM6.out.gt HXR.out)
                      have HRW : Hid (∀ wx : World, Hp wx nw 50 (rpC ⟨⟨tf, tt, false, (k : Int), top, tk, tz⟩, ⟨xE, xf, xv, xo, xk, xu⟩, []⟩ (.slice none 0 0)) → wx.rangeAt nw 0 (rpC ⟨⟨tf, tt, false, (k : Int), top, tk, tz⟩, ⟨xE, xf, xv, xo, xk, xu⟩, []⟩ (.slice none 0 0))) := fun wx h => h.range (fun i _ => by rw [Nat.zero_add])
                      have HSG : Hid (SeesG ppC 2 Pp.nil W6.drew gu (⟨⟨tf, tt, false, (k : Int), top, tk, tz⟩, ⟨xE, xf, xv, xo, xk, xu⟩, []⟩ : Ry).ps) := own_seesG ppC_len Pp.nil (HM6.out.ps (⟨⟨tf, tt, false, (k : Int), top, tk, tz⟩, ⟨xE, xf, xv, xo, xk, xu⟩, []⟩, gu) (List.mem_of_getElem? HXR.out))
                      have HMD := keepG (HM6.out.below (below_drG (Below.refl W6.heap.size W6)))
                      go_wp2
                      refine wp_region_held_drew (S := fun w' => w'.rangeAt pg (og + jj * 14) (rpC ⟨⟨tf, tt, false, (k : Int), top, tk, tz⟩, ⟨xE, xf, xv, xo, xk, xu⟩, []⟩ gu) ∧ w'.rangeAt nw 0 (rpC ⟨⟨tf, tt, false, (k : Int), top, tk, tz⟩, ⟨xE, xf, xv, xo, xk, xu⟩, []⟩ (.slice none 0 0))) (by kernel_rfl) ⟨HGW.out, HRW.out _ HP6.out⟩ (fun hHeld => ?_)
                      refine tkGo [0, 1, 2] ?_
                      repeat (refine tkOne (v := ?_) rfl (by kernel_rfl) (by kernel_rfl) (by kernel_rfl) (fun _ _ _ h => h) (by assumption) (by rfl) ?_ ?_; rotate_left; (intro wy hSw; (try dsimp only at hSw); go_simp; (first | done | with_reducible rfl)); try simp only [Act.put, List.getElem_toArray, List.getElem_cons_zero, List.getElem_cons_succ, List.setIfInBounds_toArray, List.set_cons_zero, List.set_cons_succ])
                      refine tkEnd ?_
                      refine wpAnyH_take (i := 3) rfl (by kernel_rfl) (by kernel_rfl) (by kernel_rfl) (fun _ _ _ h => h) (yieldsIf_load_mid (by rfl) _ _ rfl _ _ rfl (rpC ⟨⟨tf, tt, false, (k : Int), top, tk, tz⟩, ⟨xE, xf, xv, xo, xk, xu⟩, []⟩ gu) _ (fun w h => h.1) Try.underlying50 rfl (by kernel_rfl)) (by assumption) ?_
                      try simp only [Act.put, List.getElem_toArray, List.getElem_cons_zero, List.getElem_cons_succ, List.setIfInBounds_toArray, List.set_cons_zero, List.set_cons_succ]
                      refine wpAnyH_take (i := 4) rfl (by kernel_rfl) (by kernel_rfl) (by kernel_rfl) (fun _ _ _ h => h) (yieldsIf_load_mid (by rfl) _ _ rfl _ _ rfl (rpC ⟨⟨tf, tt, false, (k : Int), top, tk, tz⟩, ⟨xE, xf, xv, xo, xk, xu⟩, []⟩ (.slice none 0 0)) _ (fun w h => h.2) Try.underlying50 rfl (by kernel_rfl)) (by assumption) ?_
                      try simp only [Act.put, List.getElem_toArray, List.getElem_cons_zero, List.getElem_cons_succ, List.setIfInBounds_toArray, List.set_cons_zero, List.set_cons_succ]
                      refine wpAnyH_ready (rs := [5]) (by kernel_rfl) (by simp) ?_
                      refine AllReadyH.cons rfl (fun KK hK => ?_) AllReadyH.nil
                      rw [if_pos (by rfl)]
                      go_simp
                      go_at_call 15
                      refine (walike (p := ⟨⟨tf, tt, false, (k : Int), top, tk, tz⟩, ⟨xE, xf, xv, xo, xk, xu⟩, []⟩) HSG.out HSU.out.drew).mono ?_
                      rintro e w9 ⟨rfl, hb9⟩
                      have HM9 := keepG (HMD.out.below hb9)
                      have HP9 := keepG (Hp.below (w := W6.drew) HP6.out.drew hb9 HP6.out.drew.lt)
                      clear hb9
                      go_simp
                      refine hK.out _ _ ⟨got_at HM9.out.gt HXR.out, HRW.out _ HP9.out⟩ (fun hHeld => ?_)
                      clear hK KK
                      try simp only [Act.put, List.getElem_toArray, List.getElem_cons_zero, List.getElem_cons_succ, List.setIfInBounds_toArray, List.set_cons_zero, List.set_cons_succ]
                      refine tkGo [6] ?_
                      repeat (refine tkOne (v := ?_) rfl (by kernel_rfl) (by kernel_rfl) (by kernel_rfl) (fun _ _ _ h => h) (by assumption) (by rfl) ?_ ?_; rotate_left; (intro wy hSw; (try dsimp only at hSw); go_simp; (first | done | with_reducible rfl)); try simp only [Act.put, List.getElem_toArray, List.getElem_cons_zero, List.getElem_cons_succ, List.setIfInBounds_toArray, List.set_cons_zero, List.set_cons_succ])
                      refine tkEnd ?_
                      refine wpAnyH_done (by kernel_rfl) ?_ _
                      clear hHeld
                      go_wp2
                      go_roundw
                      case rel => exact ⟨jj + 1, (st.set k s5), _, by omega, by go_num, HM9.out, HNX.out.symm⟩
                      case measure => simp [intOf]; omega
                  · have hjtI : ¬ (jj : Int) < L.length := by omega
                    have HE1 : Hid (o4.end = (0, ⟨o4.sh, o4.n, o4.ds, o4.st, o4.ln, true⟩)) := by show _ = _; unfold On.end; rw [if_pos HLN.out]
                    have HE2 : Hid ((⟨o4.sh, o4.n, o4.ds, o4.st, o4.ln, true⟩ : On).send [] = (43, ⟨o4.sh, o4.n, o4.ds, o4.st, o4.ln, true⟩)) := by show _ = _; unfold On.send; rw [if_pos rfl]
                    have HE3 : Hid (((⟨o4.sh, o4.n, o4.ds, o4.st, o4.ln, true⟩ : On).ln.length + ([] : List Rt).length) * 56 ≤ 140737488355328) := HZC.out
                    go_wp2_with (first
                      | (go_at_call 16; go_must (refine (HD.out.1.own.endd HE1).mono ?_); rintro e w6 ⟨rfl, F6, hL6, hn6⟩; go_must (have HL6 := keepG hL6; clear hL6 hn6))
                      | (go_at_call 22; go_must (refine HL6.out.ended.mono ?_); rintro e w7 ⟨rfl, rfl⟩)
                      | (go_at_call 10; go_must (refine (HL6.out.send HE3 (SeesG.nil Rt.nil w6) (by simp) (fun h => absurd rfl h) HE2).mono ?_); rintro e w8 ⟨rfl, F8, hL8, hn8⟩; go_must (have HL8 := keepG hL8; clear hL8 hn8)))
                    go_ret
                    exact ⟨rfl, HEND.out _ HL8.out.be⟩
/-- OwnerOrders. -/
theorem ownerOrders_walk (s n : Int) (mv : Value) (es : List (Int × Int)) (qv : Value) (qs : List Rt) (cv : Value) (cs : List Int) (w : World) (hm : SeesG dfC 2 (0, 0) w mv es) (_ : es.length * 16 ≤ 140737488351232) (hs : Rqs w qv qs) (_ : qs.length * 56 ≤ 140737488351232 ∧ ∀ x ∈ qs, True) (hc : Sees .i64 w cv cs) (_ : cs.length * 8 ≤ 140737488351232) :
    Calls Try.prog 4 #[shV s n mv, qv, cv] w fun e w' => e = .returned (.bool true) ∧ Below w.heap.size w w' := ownerOrders_ok s n mv es qv qs cv cs w hm hs.sees hs.wf hc
end Go.Proofs.Ytpbfgebecgikjaa
