/-
  Texts joined: O22LE, W22Kit, W22Aw, W22Two, W22Row, W22Fs.
-/
import Derived.Test.YtpbfgebecgikjaaO22LB
import Derived.Test.YtpbfgebecgikjaaO22LS
import Derived.Test.YtpbfgebecgikjaaO22LN
import Derived.Test.YtpbfgebecgikjaaGOpenW
import Derived.Test.YtpbfgebecgikjaaTk
namespace Go.Proofs.Ytpbfgebecgikjaa
open Go.RowKit
set_option linter.unusedVariables false
def Lwn (w : World) (B b : Nat) (F : Ft) (o : On) : Prop := ∃ rv lv vs Fs, Lwo w B b rv lv vs Fs o ∧ F = footO b rv lv vs.length Fs
theorem Lwn.lies {w : World} {B b : Nat} {F : Ft} {o : On} (h : Lwn w B b F o) : Lies w F := by
  obtain ⟨rv, lv, vs, Fs, h, rfl⟩ := h
  exact h.lies
theorem Lwn.keeps {w w' : World} {B b : Nat} {F G : Ft} {o : On} (h : Lwn w B b F o) (hc : Chg w w' G) (ha : Apt G F) : Lwn w' B b F o := by
  obtain ⟨rv, lv, vs, Fs, h, rfl⟩ := h
  exact ⟨rv, lv, vs, Fs, h.chg hc ha, rfl⟩
theorem lonew_ok (sh n : Int) {v : Value} {es : List (Int × Int)} {o : On} (w : World) (hs : SeesG dfC 2 (0, 0) w v es) (HN : Hid (newO sh n es = some o)) : Calls Try.prog 8 #[.int .i64 sh, .int .i64 n, v] w fun e w' => ∃ b F, e = .returned (.tuple #[.pointer (some ⟨b, 0, none⟩), .int .i64 0]) ∧ Lwn w' w.heap.size b F o ∧ Since w F ∧ Below w.heap.size w w' := by
  refine (lonew_lwo sh n w hs HN).mono ?_
  rintro e w' ⟨b, vm, ps, F, rfl, h, hS, hb⟩
  exact ⟨b, _, rfl, ⟨vm, _, ps, F, h, rfl⟩, hS, hb⟩
theorem Lwn.send {w : World} {B b : Nat} {F : Ft} {o o' : On} (h : Lwn w B b F o) (hk : o.Ok) (hB : B ≤ w.heap.size) {u : Value} {qs : List Rt} (hz : Hid ((o.ln.length + qs.length) * 56 ≤ 140737488355328)) (hs : SeesG rtC 7 Rt.nil w u qs) (hwf : ∀ q ∈ qs, q.wf) (hap : qs ≠ [] → Apt F (ftV u)) {E : Int} (HQ : Hid (o.send qs = (E, o'))) : Calls Try.prog 10 #[.pointer (some ⟨b, 0, none⟩), u] w fun e w' => e = .returned (.int .i64 E) ∧ ∃ F', Lwn w' B b F' o' ∧ Nx w w' F F' := by
  obtain ⟨rv, lv, vs, Fs, h, rfl⟩ := h
  refine (lsend h hk.n1 hB hz hs hwf HQ).mono ?_
  rintro e w' ⟨rfl, lv', h', hn⟩
  exact ⟨rfl, _, ⟨rv, lv', vs, Fs, h', rfl⟩, hn⟩
theorem Lwn.step {w : World} {B b : Nat} {F : Ft} {o o' : On} (h : Lwn w B b F o) (hk : o.Ok) (hB : B ≤ w.heap.size) (hz : Hid (o.ln.length * 56 ≤ 140737488355328)) {p : Ry} {r : Bool} (HQ : Hid (o.step = (p, r, o'))) : Calls Try.prog 13 #[.pointer (some ⟨b, 0, none⟩)] w fun e w' => ∃ u, e = .returned (.tuple #[rpV p u, .bool r]) ∧ ∃ F', Lwn w' B b F' o' ∧ Nx w w' F F' ∧ RoPp w' w.heap.size u p.ps ∧ Apt F' (ftV u) := by
  obtain ⟨rv, lv, vs, Fs, h, rfl⟩ := h
  have hq := HQ.out
  unfold On.step at hq
  split at hq
  · rename_i hl
    injection hq with q1 q2
    injection q2 with q2 q3
    subst q1 q2 q3
    refine (lstep_none h hl).mono ?_
    rintro e w' ⟨rfl, h', hb⟩
    exact ⟨_, rfl, _, ⟨rv, lv, vs, Fs, h', rfl⟩, Nx.below hb, World.ownsRow_nil _ _ _ _, fun j e1 e2 => by cases e2⟩
  · rename_i q rr hl
    injection hq with q1 q2
    injection q2 with q2 q3
    subst q2
    refine (lstep_some h hk hB hl (show Hid (o.serve q rr = (p, o')) from Prod.ext q1 q3)).mono ?_
    rintro e w' ⟨u, rfl, lv', F', h', hn, hr, ha⟩
    exact ⟨u, rfl, _, ⟨rv, lv', vs, F', h', rfl⟩, hn, hr, ha⟩
theorem Lwn.waiting {w : World} {B b : Nat} {F : Ft} {o : On} (h : Lwn w B b F o) (hz : Hid (o.ln.length * 56 ≤ 140737488355328)) : Calls Try.prog 21 #[.pointer (some ⟨b, 0, none⟩)] w fun e w' => ∃ u, e = .returned u ∧ RoRt w' w.heap.size u o.ln ∧ Below w.heap.size w w' := by
  obtain ⟨rv, lv, vs, Fs, h, rfl⟩ := h
  exact lwaiting h hz
theorem Lwn.endd {w : World} {B b : Nat} {F : Ft} {o o' : On} (h : Lwn w B b F o) (hB : B ≤ w.heap.size) {E : Int} (HQ : Hid (o.end = (E, o'))) : Calls Try.prog 16 #[.pointer (some ⟨b, 0, none⟩)] w fun e w' => e = .returned (.int .i64 E) ∧ ∃ F', Lwn w' B b F' o' ∧ Nx w w' F F' := by
  obtain ⟨rv, lv, vs, Fs, h, rfl⟩ := h
  refine (lend h HQ).mono ?_
  rintro e w' ⟨rfl, h', hc⟩
  exact ⟨rfl, _, ⟨rv, lv, vs, Fs, h', rfl⟩, hc.mono (fun k e => .inl (.inl e)), fun k hk => .inl hk⟩
theorem Lwn.ended {w : World} {B b : Nat} {F : Ft} {o : On} (h : Lwn w B b F o) : Calls Try.prog 22 #[.pointer (some ⟨b, 0, none⟩)] w fun e w' => e = .returned (.bool o.over) ∧ w = w' := by
  obtain ⟨rv, lv, vs, Fs, h, rfl⟩ := h
  exact lended h
theorem Lwn.pairs {w : World} {B b : Nat} {F : Ft} {o : On} (h : Lwn w B b F o) (hk : o.Ok) (m : Int) {E : Int} {ps : List Pp} (HQ : Hid ((if o.hasM m = true then (0, (o.sr m).1) else (2, [])) = (E, ps))) : Calls Try.prog 18 #[.pointer (some ⟨b, 0, none⟩), .int .i64 m] w fun e w' => ∃ u, e = .returned (.tuple #[u, .int .i64 E]) ∧ RoPp w' w.heap.size u ps ∧ Below w.heap.size w w' := by
  obtain ⟨rv, lv, vs, Fs, h, rfl⟩ := h
  exact lpairs h hk m HQ
end Go.Proofs.Ytpbfgebecgikjaa
namespace Go.Proofs.Ytpbfgebecgikjaa
open Go.ChangeShapes Go.WideShapes Go.ChangeAt Go.RowKit
set_option linter.unusedVariables false
set_option linter.unusedSimpArgs false
set_option maxRecDepth 100000

theorem dfC_len (e : Int × Int) : (dfC e).length = 2 := rfl
theorem df_cells {H : Type} {enc : TypeId × Value → H} {W : World} {fuel : Nat} {cs : List Value} {x : DataW H × List MemPlace}
    (h : DataW.trod enc Try.prog W 0 (fun _ => true) true fuel 74 cs = some x) : ∃ e : Int × Int, cs = dfC e ∧ True ∧ ((x.1.weights Try.prog 74).all (· ≤ reachBytes) = true → True) := by
  obtain ⟨xs, n, rfl, hx, hl, hlen, hf⟩ := DataW.trod_struct Try.underlying74 h
  have l5 : cs.length = 2 := by rw [hl]; kernel_rfl
  have u2 : Try.prog.cellsOf 3 = 1 := by kernel_rfl
  have u3 : Try.prog.cellsOf 72 = 1 := by kernel_rfl
  match cs, l5, xs, hlen, hf with
  | [c0, c1], _, [x0, x1], _, hf =>
    have h0 : DataW.trod enc Try.prog W 0 (fun _ => true) true n 72 (([c0, c1].drop 0).take (Try.prog.cellsOf 72)) = some x0 := hf 0 _ rfl
    have h1 : DataW.trod enc Try.prog W 0 (fun _ => true) true n 3 (([c0, c1].drop 1).take (Try.prog.cellsOf 3)) = some x1 := hf 1 _ rfl
    rw [u3] at h0
    rw [u2] at h1
    obtain ⟨a, e0, y0, g0⟩ := DataW.trod_int Try.underlying72 h0
    obtain ⟨b, e1, y1, g1⟩ := DataW.trod_int Try.underlying3 h1
    simp at e0 e1
    subst e0 e1
    exact ⟨(a, b), rfl, trivial, fun _ => trivial⟩
theorem wf_u64k {k : Int} (h : (Lit.int .u64 k).wf = true) : 0 ≤ k ∧ k < 18446744073709551616 := by
  simp [Lit.wf, IntKind.min, IntKind.max, IntKind.signed, IntKind.bits] at h
  omega
theorem rt_cells {H : Type} {enc : TypeId × Value → H} {W : World} {fuel : Nat} {cs : List Value} {x : DataW H × List MemPlace}
    (h : DataW.trod enc Try.prog W 0 (fun _ => true) true fuel 45 cs = some x) : ∃ q : Rt, cs = rtC q ∧ q.wf ∧ ((x.1.weights Try.prog 45).all (· ≤ reachBytes) = true → True) := by
  obtain ⟨xs, n, rfl, hx, hl, hlen, hf⟩ := DataW.trod_struct Try.underlying45 h
  have l5 : cs.length = 7 := by rw [hl]; kernel_rfl
  have u2 : Try.prog.cellsOf 3 = 1 := by kernel_rfl
  have u3 : Try.prog.cellsOf 4 = 1 := by kernel_rfl
  have u4 : Try.prog.cellsOf 43 = 4 := by kernel_rfl
  have u5 : Try.prog.cellsOf 40 = 1 := by kernel_rfl
  have u6 : Try.prog.cellsOf 41 = 1 := by kernel_rfl
  match cs, l5, xs, hlen, hf with
  | [c0, c1, c2, c3, c4, c5, c6], _, [x0, x1, x2, x3], _, hf =>
    have h0 : DataW.trod enc Try.prog W 0 (fun _ => true) true n 3 (([c0, c1, c2, c3, c4, c5, c6].drop 0).take (Try.prog.cellsOf 3)) = some x0 := hf 0 _ rfl
    have h1 : DataW.trod enc Try.prog W 0 (fun _ => true) true n 3 (([c0, c1, c2, c3, c4, c5, c6].drop 1).take (Try.prog.cellsOf 3)) = some x1 := hf 1 _ rfl
    have h2 : DataW.trod enc Try.prog W 0 (fun _ => true) true n 4 (([c0, c1, c2, c3, c4, c5, c6].drop 2).take (Try.prog.cellsOf 4)) = some x2 := hf 2 _ rfl
    have h3 : DataW.trod enc Try.prog W 0 (fun _ => true) true n 43 (([c0, c1, c2, c3, c4, c5, c6].drop 3).take (Try.prog.cellsOf 43)) = some x3 := hf 3 _ rfl
    rw [u2] at h0 h1
    rw [u3] at h2
    rw [u4] at h3
    have h3 : DataW.trod enc Try.prog W 0 (fun _ => true) true n 43 [c3, c4, c5, c6] = some x3 := h3
    obtain ⟨y0, e0, z0, _⟩ := DataW.trod_int Try.underlying3 h0
    obtain ⟨y1, e1, z1, _⟩ := DataW.trod_int Try.underlying3 h1
    obtain ⟨y2, e2, _⟩ := DataW.trod_bool Try.underlying4 h2
    simp at e0 e1 e2
    subst e0 e1 e2
    obtain ⟨ys, m, hx', hy, hl2, hlen2, hf2⟩ := DataW.trod_struct Try.underlying43 h3
    match ys, hlen2, hf2 with
    | [i0, i1, i2, i3], _, hf2 =>
      have k0 : DataW.trod enc Try.prog W 0 (fun _ => true) true m 3 (([c3, c4, c5, c6].drop 0).take (Try.prog.cellsOf 3)) = some i0 := hf2 0 _ rfl
      have k1 : DataW.trod enc Try.prog W 0 (fun _ => true) true m 40 (([c3, c4, c5, c6].drop 1).take (Try.prog.cellsOf 40)) = some i1 := hf2 1 _ rfl
      have k2 : DataW.trod enc Try.prog W 0 (fun _ => true) true m 41 (([c3, c4, c5, c6].drop 2).take (Try.prog.cellsOf 41)) = some i2 := hf2 2 _ rfl
      have k3 : DataW.trod enc Try.prog W 0 (fun _ => true) true m 41 (([c3, c4, c5, c6].drop 3).take (Try.prog.cellsOf 41)) = some i3 := hf2 3 _ rfl
      rw [u2] at k0
      rw [u5] at k1
      rw [u6] at k2 k3
      obtain ⟨m0, d0, _, _⟩ := DataW.trod_int Try.underlying3 k0
      obtain ⟨m1, d1, _, _⟩ := DataW.trod_int Try.underlying40 k1
      obtain ⟨m2, d2, _, g2⟩ := DataW.trod_int Try.underlying41 k2
      obtain ⟨m3, d3, _, _⟩ := DataW.trod_int Try.underlying41 k3
      simp at d0 d1 d2 d3
      subst d0 d1 d2 d3
      exact ⟨⟨y0, y1, y2, m0, m1, m2, m3⟩, rfl, wf_u64k g2, fun _ => trivial⟩
/-- Requests that were handed in. -/
structure Rqs (w0 : World) (v : Value) (qs : List Rt) : Prop where
  sees : SeesG rtC 7 Rt.nil w0 v qs
  wf : ∀ q ∈ qs, q.wf
theorem opens_Rt {H : Type} {enc : TypeId × Value → H} {W : World} {base : Nat} {v : Value} {d : DataW H} {p : List MemPlace}
    (hok : Value.okWide Try.prog W .any base 34 v) (h : DataW.Trod enc Try.prog W 0 (fun _ => true) true 34 v d p) :
    ∃ xs, SeesG rtC 7 Rt.nil W v xs ∧ (∀ x ∈ xs, x.wf) ∧ ((d.weights Try.prog 34).all (· ≤ reachBytes) = true → xs.length * 56 ≤ 140737488351232 ∧ ∀ x ∈ xs, True) :=
  opensGW Rt.nil (R := Rt.wf) (Q := fun _ => True) Try.underlying34 (by kernel_rfl) (by decide) rtC_len (by kernel_rfl) rt_cells hok h
/-- A shape: a shard, how many, the maps. -/
abbrev shV (s n : Int) (mv : Value) : Value := .agg #[.int .i64 s, .int .i64 n, mv]
theorem open_Shape {H : Type} {enc : TypeId × Value → H} {W : World} {base : Nat} {v : Value} {d : DataW H} {p : List MemPlace}
    (hok : Value.okWide Try.prog W .any base 24 v) (h : DataW.Trod enc Try.prog W 0 (fun _ => true) true 24 v d p) :
    ∃ s n mv es, v = shV s n mv ∧ SeesG dfC 2 (0, 0) W mv es ∧ ((d.weights Try.prog 24).all (· ≤ reachBytes) = true → es.length * 16 ≤ 140737488351232) := by
  obtain ⟨cs, rfl, _⟩ := okWide_struct Try.underlying24 hok
  obtain ⟨fuel, hf⟩ := h
  obtain ⟨xs, n, hd, hx, hl, hlen, hf⟩ := DataW.trod_struct Try.underlying24 hf
  have l5 : cs.toList.length = 3 := hl.trans (by kernel_rfl)
  have u2 : Try.prog.cellsOf 3 = 1 := by kernel_rfl
  have u4 : Try.prog.cellsOf 22 = 1 := by kernel_rfl
  obtain ⟨cl⟩ := cs
  simp only [Value.cells] at hf l5
  match cl, l5, xs, hlen, hf with
  | [c0, c1, c2], _, [x0, x1, x2], _, hf =>
    have h0 : DataW.trod enc Try.prog W 0 (fun _ => true) true n 3 (([c0, c1, c2].drop 0).take (Try.prog.cellsOf 3)) = some x0 := hf 0 _ rfl
    have h1 : DataW.trod enc Try.prog W 0 (fun _ => true) true n 3 (([c0, c1, c2].drop 1).take (Try.prog.cellsOf 3)) = some x1 := hf 1 _ rfl
    have h2 : DataW.trod enc Try.prog W 0 (fun _ => true) true n 22 (([c0, c1, c2].drop 2).take (Try.prog.cellsOf 22)) = some x2 := hf 2 _ rfl
    rw [u2] at h0 h1
    rw [u4] at h2
    have h2 : DataW.trod enc Try.prog W 0 (fun _ => true) true n 22 [c2] = some x2 := h2
    obtain ⟨a, e0, y0, g0⟩ := DataW.trod_int Try.underlying3 h0
    obtain ⟨b, e1, y1, g1⟩ := DataW.trod_int Try.underlying3 h1
    simp at e0 e1
    subst e0 e1
    obtain ⟨ua, ul, uc, rfl⟩ := slice_of_trod Try.underlying22 h2
    obtain ⟨es, s1, _, s3⟩ := opensGS (f := dfC) (z := 2) (0, 0) (R := fun _ => True) (Q := fun _ => True) (bytes := 16) (d := x2.1) (p := x2.2) Try.underlying22 (by kernel_rfl) (by decide) dfC_len (by kernel_rfl) df_cells ⟨_, _, _, rfl⟩ ⟨n, h2⟩
    refine ⟨a, b, _, es, rfl, s1, fun hall => ?_⟩
    have hd2 : d = .agg (List.map (fun x => x.1) [x0, x1, x2]) := by simpa using congrArg Prod.fst hx
    rw [hd2, DataW.weights, Try.underlying24] at hall
    simp only [DataW.weightsEach, List.map_cons, List.map_nil, List.all_append, Bool.and_eq_true] at hall
    exact (s3 hall.2.2.1).1
end Go.Proofs.Ytpbfgebecgikjaa
namespace Go.Proofs.Ytpbfgebecgikjaa
open Go.RowKit
set_option linter.unusedVariables false
set_option linter.unusedSimpArgs false
set_option maxRecDepth 100000
/-- An owner that was made since a world, and its blocks. -/
structure Lz (w0 w : World) (b : Nat) (F : Ft) (o : On) : Prop where
  ex : ∃ B, B ≤ w.heap.size ∧ Lwn w B b F o
  since : Since w0 F
  ok : o.Ok
  be : Below w0.heap.size w0 w
section
variable {w0 w w' : World} {b : Nat} {F F' G : Ft} {o o' : On}
theorem Lz.lies (h : Lz w0 w b F o) : Lies w F := by
  obtain ⟨B, _, h1⟩ := h.ex
  exact h1.lies
theorem Lz.keeps (h : Lz w0 w b F o) (hc : Chg w w' G) (ha : Apt G F) (hs : Since w0 G) : Lz w0 w' b F o := by
  obtain ⟨B, h0, h1⟩ := h.ex
  exact ⟨⟨B, Nat.le_trans h0 hc.size, h1.keeps hc ha⟩, h.since, h.ok, h.be.trans (hc.below (fun k e => hs k e) h.be.size)⟩
theorem Lz.below (h : Lz w0 w b F o) (hb : Below w.heap.size w w') : Lz w0 w' b F o := h.keeps (Chg.of_below (S := fun _ => False) hb) (fun _ e => e.elim) (fun _ e => e.elim)
theorem Lz.apt (h : Lz w0 w b F o) {v : Value} {α : Type} {ws : List α} (hl : ws ≠ [] → ∀ k, ftV v k → k < w0.heap.size) : ws ≠ [] → Apt F (ftV v) := fun hne k hk e => by
  have := hl hne k e
  have := h.since k hk
  omega
/-- What lies where nothing of the owner lies. -/
theorem Lz.aptN (h : Lz w0 w b F o) {v : Value} {α : Type} {ws : List α} (hl : ∀ k, ftV v k → w.heap.size ≤ k) : ws ≠ [] → Apt F (ftV v) := fun _ k hk e => by
  have := hl k e
  have := h.lies k hk
  omega
theorem Lz.go (h : Lz w0 w b F o) (hx : ∃ B, B ≤ w.heap.size ∧ Lwn w' B b F' o') (hk : o'.Ok) (hn : Nx w w' F F') : Lz w0 w' b F' o' := by
  obtain ⟨B, h0, h1⟩ := hx
  exact ⟨⟨B, Nat.le_trans h0 hn.chg.size, h1⟩, h.since.next h.be.size hn, hk, h.since.be h.be hn⟩
theorem Lz.send (h : Lz w0 w b F o) {u : Value} {qs : List Rt} (hz : Hid ((o.ln.length + qs.length) * 56 ≤ 140737488355328)) (hs : SeesG rtC 7 Rt.nil w u qs) (hwf : ∀ q ∈ qs, q.wf) (hap : qs ≠ [] → Apt F (ftV u)) {E : Int} (HQ : Hid (o.send qs = (E, o'))) : Calls Try.prog 10 #[.pointer (some ⟨b, 0, none⟩), u] w fun e w' => e = .returned (.int .i64 E) ∧ ∃ F', Lz w0 w' b F' o' ∧ Nx w w' F F' := by
  obtain ⟨B, h0, h1⟩ := h.ex
  refine (h1.send h.ok h0 hz hs hwf hap HQ).mono ?_
  rintro e w' ⟨rfl, F', g1, g2⟩
  exact ⟨rfl, F', h.go ⟨B, h0, g1⟩ (h.ok.send HQ.out) g2, g2⟩
theorem Lz.step (h : Lz w0 w b F o) (hz : Hid (o.ln.length * 56 ≤ 140737488355328)) {p : Ry} {r : Bool} (HQ : Hid (o.step = (p, r, o'))) : Calls Try.prog 13 #[.pointer (some ⟨b, 0, none⟩)] w fun e w' => ∃ a c, e = .returned (.tuple #[rpV p (.slice a p.ps.length c), .bool r]) ∧ ∃ F', Lz w0 w' b F' o' ∧ Nx w w' F F' ∧ RoPp w' w.heap.size (.slice a p.ps.length c) p.ps ∧ Apt F' (ftV (.slice a p.ps.length c)) := by
  obtain ⟨B, h0, h1⟩ := h.ex
  refine (h1.step h.ok h0 hz HQ).mono ?_
  rintro e w' ⟨u, rfl, F', g1, g2, g3, g4⟩
  obtain ⟨a, c, rfl⟩ := own_shape g3
  exact ⟨a, c, rfl, F', h.go ⟨B, h0, g1⟩ (h.ok.step HQ.out) g2, g2, g3, g4⟩
theorem Lz.waiting (h : Lz w0 w b F o) (hz : Hid (o.ln.length * 56 ≤ 140737488355328)) {l : List Rt} (hl : Hid (o.ln = l)) : Calls Try.prog 21 #[.pointer (some ⟨b, 0, none⟩)] w fun e w' => ∃ a c, e = .returned (.slice a l.length c) ∧ RoRt w' w.heap.size (.slice a l.length c) l ∧ Below w.heap.size w w' := by
  obtain ⟨B, h0, h1⟩ := h.ex
  refine (h1.waiting hz).mono ?_
  rintro e w' ⟨u, rfl, g1, g2⟩
  rw [hl.out] at g1
  obtain ⟨a, c, rfl⟩ := own_shape g1
  exact ⟨a, c, rfl, g1, g2⟩
theorem Lz.endd (h : Lz w0 w b F o) {E : Int} (HQ : Hid (o.end = (E, o'))) : Calls Try.prog 16 #[.pointer (some ⟨b, 0, none⟩)] w fun e w' => e = .returned (.int .i64 E) ∧ ∃ F', Lz w0 w' b F' o' ∧ Nx w w' F F' := by
  obtain ⟨B, h0, h1⟩ := h.ex
  refine (h1.endd h0 HQ).mono ?_
  rintro e w' ⟨rfl, F', g1, g2⟩
  exact ⟨rfl, F', h.go ⟨B, h0, g1⟩ (h.ok.end HQ.out) g2, g2⟩
theorem Lz.ended (h : Lz w0 w b F o) : Calls Try.prog 22 #[.pointer (some ⟨b, 0, none⟩)] w fun e w' => e = .returned (.bool o.over) ∧ w = w' := by
  obtain ⟨B, h0, h1⟩ := h.ex
  exact h1.ended
theorem Lz.pairs (h : Lz w0 w b F o) (m : Int) {E : Int} {ps : List Pp} (HQ : Hid ((if o.hasM m = true then (0, (o.sr m).1) else (2, [])) = (E, ps))) : Calls Try.prog 18 #[.pointer (some ⟨b, 0, none⟩), .int .i64 m] w fun e w' => ∃ a c, e = .returned (.tuple #[.slice a ps.length c, .int .i64 E]) ∧ RoPp w' w.heap.size (.slice a ps.length c) ps ∧ Below w.heap.size w w' := by
  obtain ⟨B, h0, h1⟩ := h.ex
  refine (h1.pairs h.ok m HQ).mono ?_
  rintro e w' ⟨u, rfl, g1, g2⟩
  obtain ⟨a, c, rfl⟩ := own_shape g1
  exact ⟨a, c, rfl, g1, g2⟩
theorem lznew_ok (sh n : Int) {v : Value} {es : List (Int × Int)} {w1 : World} (hb : Below w0.heap.size w0 w1) (hs : SeesG dfC 2 (0, 0) w1 v es) (HN : Hid (newO sh n es = some o)) : Calls Try.prog 8 #[.int .i64 sh, .int .i64 n, v] w1 fun e w' => ∃ b F, e = .returned (.tuple #[.pointer (some ⟨b, 0, none⟩), .int .i64 0]) ∧ Lz w0 w' b F o ∧ Since w1 F ∧ Below w1.heap.size w1 w' := by
  refine (lonew_ok sh n w1 hs HN).mono ?_
  rintro e w' ⟨b, F, rfl, h1, h2, h3⟩
  obtain ⟨_, _, _, _, _, _, hok⟩ := newO_some HN.out
  exact ⟨b, F, rfl, ⟨⟨_, h3.size, h1⟩, fun k hk => Nat.le_trans hb.size (h2 k hk), hok, hb.trans (h3.mono hb.size)⟩, h2, h3⟩
end
theorem SeesG.oldG {α : Type} {f : α → List Value} {z : Nat} {d : α} {w0 : World} {v : Value} {xs : List α} (h : SeesG f z d w0 v xs) : xs ≠ [] → ∀ k, ftV v k → k < w0.heap.size := by
  intro hne k hk
  obtain ⟨a, c, rfl, _, _, _, hc⟩ := h
  obtain ⟨b, of, rfl, hlt, _⟩ := hc hne
  have : b = k := Option.some.inj hk
  omega
section
variable {w w' : World}
set_option maxHeartbeats 3200000 in
/-- Equal lines are alike. -/
theorem wlines {va vb : Value} {A : List Rt} (ha : SeesG rtC 7 Rt.nil w va A) (hb : SeesG rtC 7 Rt.nil w vb A) : Calls Try.prog 12 #[va, vb] w fun e w' => e = .returned (.bool true) ∧ Below w.heap.size w w' := by
  have HA := keepG (fun (wr : World) (hc : Below w.heap.size w wr) => ha.below hc (Nat.le_refl _))
  have HB := keepG (fun (wr : World) (hc : Below w.heap.size w wr) => hb.below hc (Nat.le_refl _))
  obtain ⟨a1, c1, ev1, hl1, hm1⟩ := ha.shape
  obtain ⟨a2, c2, ev2, hl2, hm2⟩ := hb.shape
  subst ev1 ev2
  have hAl : A.length ≤ 9223372036854775807 := by omega
  clear ha hb
  go_enter Try.func12, Try.ntmps12
  go_wp2
  go_loopw [5] (fun i wr => ∃ j : Nat, j ≤ A.length ∧ i = .int .i64 j ∧ Hid (Below w.heap.size w wr)) (fun i _ => A.length - (intOf i).toNat)
  case atStart => exact ⟨0, by omega, rfl, Below.refl _ _⟩
  case round =>
    obtain ⟨j, hj, rfl, HBW⟩ := hrel
    rename World => wr
    by_cases hlt : j < A.length
    · have hltI : (j : Int) < A.length := by omega
      obtain ⟨p1, o1, ev1, hat1⟩ := rtAt (HA.out wr HBW.out) hlt
      obtain ⟨p2, o2, ev2, hat2⟩ := rtAt (HB.out wr HBW.out) hlt
      subst ev1 ev2
      obtain ⟨t, HT⟩ : ∃ t, Hid (A.getD j Rt.nil = t) := ⟨_, rfl⟩
      obtain ⟨d0, d1, d2, d3, d4, d5, d6⟩ := hat1 j hlt t HT.out
      obtain ⟨e0, e1, e2, e3, e4, e5, e6⟩ := hat2 j hlt t HT.out
      obtain ⟨qf, qt, qw, qm, qo, qk, qv⟩ := t
      simp only at d0 d1 d2 d3 d4 d5 d6 e0 e1 e2 e3 e4 e5 e6
      clear hat1 hat2
      have HBd := keepG (below_drG HBW.out)
      go_wp2
      refine wp_region_held_drew (S := fun w' => (w'.cell? ⟨p1, o1 + j * 7, none⟩ = some (.int .i64 qf) ∧ w'.cell? ⟨p1, o1 + j * 7 + 1, none⟩ = some (.int .i64 qt) ∧ w'.cell? ⟨p1, o1 + j * 7 + 2, none⟩ = some (.bool qw) ∧ w'.cell? ⟨p1, o1 + j * 7 + 3, none⟩ = some (.int .i64 qm) ∧ w'.cell? ⟨p1, o1 + j * 7 + 4, none⟩ = some (.int .i64 qo) ∧ w'.cell? ⟨p1, o1 + j * 7 + 5, none⟩ = some (.int .u64 qk) ∧ w'.cell? ⟨p1, o1 + j * 7 + 6, none⟩ = some (.int .u64 qv)) ∧ w'.cell? ⟨p2, o2 + j * 7, none⟩ = some (.int .i64 qf) ∧ w'.cell? ⟨p2, o2 + j * 7 + 1, none⟩ = some (.int .i64 qt) ∧ w'.cell? ⟨p2, o2 + j * 7 + 2, none⟩ = some (.bool qw) ∧ w'.cell? ⟨p2, o2 + j * 7 + 3, none⟩ = some (.int .i64 qm) ∧ w'.cell? ⟨p2, o2 + j * 7 + 4, none⟩ = some (.int .i64 qo) ∧ w'.cell? ⟨p2, o2 + j * 7 + 5, none⟩ = some (.int .u64 qk) ∧ w'.cell? ⟨p2, o2 + j * 7 + 6, none⟩ = some (.int .u64 qv)) (by kernel_rfl) ⟨⟨d0, d1, d2, d3, d4, d5, d6⟩, e0, e1, e2, e3, e4, e5, e6⟩ (fun hHeld => ?_)
      refine tkGo [0, 1, 2, 3, 4, 5, 6, 7, 8] ?_
      repeat (refine tkOne (v := ?_) rfl (by kernel_rfl) (by kernel_rfl) (by kernel_rfl) (fun _ _ _ h => h) (by assumption) (by rfl) ?_ ?_; rotate_left; (intro wy hSw; (try dsimp only at hSw); go_simp; (first | done | with_reducible rfl)); try simp only [Act.put, List.getElem_toArray, List.getElem_cons_zero, List.getElem_cons_succ, List.setIfInBounds_toArray, List.set_cons_zero, List.set_cons_succ])
      refine tkEnd ?_
      refine wpAnyH_done (by kernel_rfl) ?_ _
      clear hHeld
      go_wp2
      go_roundw
      case rel => exact ⟨j + 1, by omega, by go_num, HBd.out⟩
      case measure => simp [intOf]; omega
    · have hltI : ¬ (j : Int) < A.length := by omega
      go_wp2
      go_ret
      exact ⟨rfl, HBW.out⟩
theorem ppAt {a : Option Addr} {n cap : Nat} {l : List Pp} (h : SeesG ppC 2 Pp.nil w (.slice a n cap) l) {j : Nat} (hj : j < l.length) : ∃ p off, a = some ⟨p, off, none⟩ ∧ ∀ i, i < l.length → ∀ q, l.getD i Pp.nil = q → w.cell? ⟨p, off + i * 2, none⟩ = some (.int .u64 q.k) ∧ w.cell? ⟨p, off + i * 2 + 1, none⟩ = some (.int .u64 q.v) := by
  obtain ⟨a', cap', ev, _, _, _, hat⟩ := h
  simp only [Value.slice.injEq] at ev
  obtain ⟨rfl, _, rfl⟩ := ev
  obtain ⟨p, off, rfl, _, hc⟩ := hat (fun e => by rw [e] at hj; simp at hj)
  refine ⟨p, off, rfl, fun i hi q hq => ?_⟩
  have g0 := hc i hi 0 (by omega)
  have g1 := hc i hi 1 (by omega)
  rw [hq] at g0 g1
  exact ⟨g0, g1⟩
set_option maxHeartbeats 3200000 in
/-- Equal pairs are alike. -/
theorem wpairs22 {va vb : Value} {A : List Pp} (ha : SeesG ppC 2 Pp.nil w va A) (hb : SeesG ppC 2 Pp.nil w vb A) : Calls Try.prog 19 #[va, vb] w fun e w' => e = .returned (.bool true) ∧ Below w.heap.size w w' := by
  have HA := keepG (fun (wr : World) (hc : Below w.heap.size w wr) => ha.below hc (Nat.le_refl _))
  have HB := keepG (fun (wr : World) (hc : Below w.heap.size w wr) => hb.below hc (Nat.le_refl _))
  obtain ⟨a1, c1, ev1, hl1, hm1⟩ := ha.shape
  obtain ⟨a2, c2, ev2, hl2, hm2⟩ := hb.shape
  subst ev1 ev2
  have hAl : A.length ≤ 9223372036854775807 := by omega
  clear ha hb
  go_enter Try.func19, Try.ntmps19
  go_wp2
  go_loopw [5] (fun i wr => ∃ j : Nat, j ≤ A.length ∧ i = .int .i64 j ∧ Hid (Below w.heap.size w wr)) (fun i _ => A.length - (intOf i).toNat)
  case atStart => exact ⟨0, by omega, rfl, Below.refl _ _⟩
  case round =>
    obtain ⟨j, hj, rfl, HBW⟩ := hrel
    rename World => wr
    by_cases hlt : j < A.length
    · have hltI : (j : Int) < A.length := by omega
      obtain ⟨p1, o1, ev1, hat1⟩ := ppAt (HA.out wr HBW.out) hlt
      obtain ⟨p2, o2, ev2, hat2⟩ := ppAt (HB.out wr HBW.out) hlt
      subst ev1 ev2
      obtain ⟨t, HT⟩ : ∃ t, Hid (A.getD j Pp.nil = t) := ⟨_, rfl⟩
      obtain ⟨d0, d1⟩ := hat1 j hlt t HT.out
      obtain ⟨e0, e1⟩ := hat2 j hlt t HT.out
      obtain ⟨qk, qv⟩ := t
      simp only at d0 d1 e0 e1
      clear hat1 hat2
      have HBd := keepG (below_drG HBW.out)
      go_wp2
      refine wp_region_held_drew (S := fun w' => (w'.cell? ⟨p1, o1 + j * 2, none⟩ = some (.int .u64 qk) ∧ w'.cell? ⟨p1, o1 + j * 2 + 1, none⟩ = some (.int .u64 qv)) ∧ w'.cell? ⟨p2, o2 + j * 2, none⟩ = some (.int .u64 qk) ∧ w'.cell? ⟨p2, o2 + j * 2 + 1, none⟩ = some (.int .u64 qv)) (by kernel_rfl) ⟨⟨d0, d1⟩, e0, e1⟩ (fun hHeld => ?_)
      refine tkGo [0, 1, 2, 3, 4, 5, 6, 7, 8] ?_
      repeat (refine tkOne (v := ?_) rfl (by kernel_rfl) (by kernel_rfl) (by kernel_rfl) (fun _ _ _ h => h) (by assumption) (by rfl) ?_ ?_; rotate_left; (intro wy hSw; (try dsimp only at hSw); go_simp; (first | done | with_reducible rfl)); try simp only [Act.put, List.getElem_toArray, List.getElem_cons_zero, List.getElem_cons_succ, List.setIfInBounds_toArray, List.set_cons_zero, List.set_cons_succ])
      refine tkEnd ?_
      refine wpAnyH_done (by kernel_rfl) ?_ _
      clear hHeld
      go_wp2
      go_roundw
      case rel => exact ⟨j + 1, by omega, by go_num, HBd.out⟩
      case measure => simp [intOf]; omega
    · have hltI : ¬ (j : Int) < A.length := by omega
      go_wp2
      go_ret
      exact ⟨rfl, HBW.out⟩
set_option maxHeartbeats 6400000 in
/-- Equal replies are alike. -/
theorem walike {p : Ry} {va vb : Value} (ha : SeesG ppC 2 Pp.nil w va p.ps) (hb : SeesG ppC 2 Pp.nil w vb p.ps) : Calls Try.prog 15 #[rpV p va, rpV p vb] w fun e w' => e = .returned (.bool true) ∧ Below w.heap.size w w' := by
  obtain ⟨a1, c1, ev1, hl1, hm1⟩ := ha.shape
  obtain ⟨a2, c2, ev2, hl2, hm2⟩ := hb.shape
  subst ev1 ev2
  obtain ⟨q, x, ps⟩ := p
  obtain ⟨qf, qt, qw, qm, qo, qk, qv⟩ := q
  obtain ⟨xE, xf, xv, xo, xk, xu⟩ := x
  simp only at ha hb hl1 hl2
  obtain ⟨X, HX, hbX, HPX⟩ : ∃ X, Hid (w.alloc (.cells (rpC ⟨⟨qf, qt, qw, qm, qo, qk, qv⟩, ⟨xE, xf, xv, xo, xk, xu⟩, ps⟩ (.slice a1 ps.length c1)).toArray 50) = X) ∧ Below w.heap.size w X ∧ Hid (Hp X w.heap.size 50 (rpC ⟨⟨qf, qt, qw, qm, qo, qk, qv⟩, ⟨xE, xf, xv, xo, xk, xu⟩, ps⟩ (.slice a1 ps.length c1))) := ⟨_, rfl, below_allocG _ _, Hp.new w _ _⟩
  obtain ⟨Y, HY, hbY, HPY⟩ : ∃ Y, Hid (X.alloc (.cells (rpC ⟨⟨qf, qt, qw, qm, qo, qk, qv⟩, ⟨xE, xf, xv, xo, xk, xu⟩, ps⟩ (.slice a2 ps.length c2)).toArray 50) = Y) ∧ Below X.heap.size X Y ∧ Hid (Hp Y X.heap.size 50 (rpC ⟨⟨qf, qt, qw, qm, qo, qk, qv⟩, ⟨xE, xf, xv, xo, xk, xu⟩, ps⟩ (.slice a2 ps.length c2))) := ⟨_, rfl, below_allocG _ _, Hp.new X _ _⟩
  have HPX2 := keepG (HPX.out.below hbY HPX.out.lt)
  have hbw := hbX.trans (hbY.mono hbX.size)
  have HSA := keepG (ha.below hbw (Nat.le_refl _))
  have HSB := keepG (hb.below hbw (Nat.le_refl _))
  have HBW := keepG hbw
  clear ha hb hbX hbY hbw HPX HPY HPX2
  unfold rpV
  go_enter Try.func15, Try.ntmps15
  go_wp2_with (first
    | (go_at_call 19; rw [HX.out, HY.out]; go_must (refine (wpairs22 HSA.out HSB.out).mono ?_); rintro e w3 ⟨rfl, hb3⟩; go_must (have HB3 := keepG (HBW.out.trans (hb3.mono HBW.out.size)); clear hb3)))
  go_ret
  exact ⟨rfl, HB3.out⟩
end
theorem lit_rts (w : World) (qs : List Rt) (hl : qs.length ≤ 4194304) : SeesG rtC 7 Rt.nil (w.alloc (.cells (flatG rtC qs).toArray 45)) (.slice (some ⟨w.heap.size, 0, none⟩) qs.length qs.length) qs := SeesG.lit rtC_len Rt.nil w _ qs _ _ rfl rfl hl
theorem ft_litO {w : World} {k l c : Nat} : ftV (.slice (some ⟨w.heap.size, 0, none⟩) l c) k → w.heap.size ≤ k := fun e => by
  have : w.heap.size = k := Option.some.inj e
  omega
set_option maxHeartbeats 6400000 in
theorem awake22_any (w : World) : Calls Try.prog 7 #[] w fun e w' => e = .returned (.bool true) ∧ Below w.heap.size w w' := by
  obtain ⟨o1, HN⟩ : ∃ o1, Hid (newO 0 2 [(0, 1)] = some o1) := ⟨_, rfl⟩
  have ho1 : o1 = On.new 0 2 [(false, 1)] := by
    have := HN.out
    injection this with this
    rw [← this]
    rfl
  have HQ1 : Hid (o1.send [⟨5, 9, false, 0, 2, 0, 7⟩, ⟨6, 0, true, 0, 0, 0, 0⟩] = (0, ⟨0, 2, [(false, 1)], [([], [])], [⟨5, 9, false, 0, 2, 0, 7⟩, ⟨6, 0, true, 0, 0, 0, 0⟩], false⟩)) := by
    show _ = _
    rw [ho1]
    rfl
  have HQ2 : Hid ((⟨0, 2, [(false, 1)], [([], [])], [⟨5, 9, false, 0, 2, 0, 7⟩, ⟨6, 0, true, 0, 0, 0, 0⟩], false⟩ : On).step = (⟨⟨5, 9, false, 0, 2, 0, 7⟩, ⟨0, false, 0, false, 0, 0⟩, []⟩, true, ⟨0, 2, [(false, 1)], [([⟨0, 7⟩], [])], [⟨6, 0, true, 0, 0, 0, 0⟩], false⟩)) := by show _ = _; rfl
  have HQ3 : Hid ((⟨0, 2, [(false, 1)], [([⟨0, 7⟩], [])], [⟨6, 0, true, 0, 0, 0, 0⟩], false⟩ : On).step = (⟨⟨6, 0, true, 0, 0, 0, 0⟩, Rq.none, [⟨0, 7⟩]⟩, true, ⟨0, 2, [(false, 1)], [([⟨0, 7⟩], [])], [], false⟩)) := by show _ = _; rfl
  have HZ0 : Hid (o1.ln.length = 0) := by show _ = _; rw [ho1]; rfl
  clear ho1
  go_enter Try.func7, Try.ntmps7
  go_wp2_with (first
    | (go_at_call 8; go_must (refine (lznew_ok (w0 := w) 0 2 (es := [(0, 1)]) (below_allocG w _) (SeesG.lit dfC_len (0, 0) w 74 [(0, 1)] _ 1 rfl rfl (by simp)) HN).mono ?_); rintro e w1 ⟨b, F, rfl, hL, _, _⟩; go_must (have HL := keepG hL; obtain ⟨Z, HZ, hbZ, HSZ⟩ : ∃ Z, Hid (w1.alloc (.cells #[.int .i64 5, .int .i64 9, .bool false, .int .i64 0, .int .i64 2, .int .u64 0, .int .u64 7, .int .i64 6, .int .i64 0, .bool true, .int .i64 0, .int .i64 0, .int .u64 0, .int .u64 0] 45) = Z) ∧ Below w1.heap.size w1 Z ∧ Hid (SeesG rtC 7 Rt.nil Z (.slice (some ⟨w1.heap.size, 0, none⟩) 2 2) [⟨5, 9, false, 0, 2, 0, 7⟩, ⟨6, 0, true, 0, 0, 0, 0⟩]) := ⟨_, rfl, below_allocG _ _, lit_rts w1 [⟨5, 9, false, 0, 2, 0, 7⟩, ⟨6, 0, true, 0, 0, 0, 0⟩] (by simp)⟩; have HLZ := keepG (hL.below hbZ); have HAZ := keepG (hL.aptN (α := Rt) (ws := [⟨5, 9, false, 0, 2, 0, 7⟩, ⟨6, 0, true, 0, 0, 0, 0⟩]) (v := .slice (some ⟨w1.heap.size, 0, none⟩) 2 2) (fun k e => ft_litO e)); clear hL hbZ))
    | (go_at_call 10; rw [HZ.out]; go_must (refine (HLZ.out.send (by show _ ≤ _; rw [HZ0.out]; simp) HSZ.out (by intro q hq; simp at hq; rcases hq with e | e <;> subst e <;> exact ⟨by decide, by decide⟩) HAZ.out HQ1).mono ?_); rintro e w2 ⟨rfl, F2, hL2, _⟩; go_must (have HL2 := keepG hL2; clear hL2))
    | (have hq := HL3; clear hq; go_at_call 13; go_must (refine (HLY.out.step (by show _ ≤ _; simp) HQ3).mono ?_); rintro e w4 ⟨a4, c4, rfl, F4, hL4, hn4, hr4, _⟩; go_must (have HL4 := keepG hL4; unfold rpV; obtain ⟨p4, cc4, ev, -, hp4, hc4, hm4, hat4⟩ := own_atG ppC_len Pp.nil hr4 (by simp); simp only [Value.slice.injEq, true_and] at ev; obtain ⟨rfl, rfl⟩ := ev; have g1 : w4.cell? ⟨p4, 1, none⟩ = some (.int .u64 7) := (hat4 0 (by simp) 1 (by decide)).1; have HP4 := keepG (HPY.out.chg hn4.chg (fun e => by have := HL3.out.lies _ e; omega)); have hl4 := HP4.out.lt; obtain ⟨W5, HW5, hb5, HP5⟩ : ∃ W5, Hid (w4.alloc (.cells (rpC ⟨⟨6, 0, true, 0, 0, 0, 0⟩, Rq.none, [⟨0, 7⟩]⟩ (.slice (some ⟨p4, 0, none⟩) 1 c4)).toArray 50) = W5) ∧ Below w4.heap.size w4 W5 ∧ Hid (Hp W5 w4.heap.size 50 (rpC ⟨⟨6, 0, true, 0, 0, 0, 0⟩, Rq.none, [⟨0, 7⟩]⟩ (.slice (some ⟨p4, 0, none⟩) 1 c4))) := ⟨_, rfl, below_allocG _ _, Hp.new w4 _ _⟩; have HP6 := keepG (HP4.out.below hb5 hl4); have x0 := HP6.out.cell (j := 0) rfl; have x1 := HP6.out.cell (j := 1) rfl; have z2 := HP5.out.cell (j := 2) rfl; have z13 := HP5.out.cell (j := 13) rfl; have g2 := (hb5.cell (p := ⟨p4, 1, none⟩) hp4).trans g1; have HL5 := keepG (HL4.out.below hb5); clear hL4 hr4 hn4 hat4 hb5 g1))
    | (go_at_call 13; go_must (refine (HL2.out.step (by show _ ≤ _; simp) HQ2).mono ?_); rintro e w3 ⟨a3, c3, rfl, F3, hL3, _, _, _⟩; go_must (have HL3 := keepG hL3; unfold rpV; obtain ⟨Y, HY, HLY, HPY⟩ : ∃ Y, Hid (w3.alloc (.cells (rpC ⟨⟨5, 9, false, 0, 2, 0, 7⟩, ⟨0, false, 0, false, 0, 0⟩, []⟩ (.slice a3 0 c3)).toArray 50) = Y) ∧ Hid (Lz w Y b F3 ⟨0, 2, [(false, 1)], [([⟨0, 7⟩], [])], [⟨6, 0, true, 0, 0, 0, 0⟩], false⟩) ∧ Hid (Hp Y w3.heap.size 50 (rpC ⟨⟨5, 9, false, 0, 2, 0, 7⟩, ⟨0, false, 0, false, 0, 0⟩, []⟩ (.slice a3 0 c3))) := ⟨_, rfl, hL3.below (below_allocG _ _), Hp.new w3 _ _⟩; clear hL3))
    | (rw [HW5.out])
    | (rw [HY.out]))
  go_ret
  exact ⟨rfl, HL5.out.be⟩
end Go.Proofs.Ytpbfgebecgikjaa
namespace Go.Proofs.Ytpbfgebecgikjaa
open Go.RowKit
set_option linter.unusedVariables false
set_option linter.unusedSimpArgs false
set_option maxRecDepth 100000
theorem newO_line {sh n : Int} {es : List (Int × Int)} {o : On} (h : newO sh n es = some o) : o.line [] = o ∧ o.over = false ∧ o.ln = [] ∧ o.st.length = es.length := by
  obtain ⟨_, _, _, ds, h1, rfl, _⟩ := newO_some h
  refine ⟨rfl, rfl, rfl, ?_⟩
  show (List.replicate ds.length Sr.nil).length = _
  rw [List.length_replicate]
  exact (allDf_some h1).1
theorem send_one {o : On} (ho : o.over = false) (l : List Rt) (q : Rt) : (o.line l).send [q] = if o.takes q = true then (0, o.line (l ++ [q])) else (2, o.line l) := by
  have ht : (o.line l).takes q = o.takes q := takes_same rfl rfl rfl q
  have ho' : (o.line l).over = false := ho
  unfold On.send
  rw [if_neg (by rw [ho']; decide)]
  simp only [List.all_cons, List.all_nil, Bool.and_true, ht]
  rfl
theorem send_all {o : On} (ho : o.over = false) (hl : o.ln = []) (qs : List Rt) : o.send qs = if qs.all o.takes = true then (0, o.line qs) else (2, o) := by
  unfold On.send
  rw [if_neg (by rw [ho]; decide), hl, List.nil_append]
theorem step_cons {o : On} {q : Rt} {r : List Rt} (h : o.ln = q :: r) : ∃ p o', o.step = (p, true, o') ∧ o'.ln = r ∧ o'.over = o.over ∧ o'.st.length = o.st.length := by
  refine ⟨_, _, by unfold On.step; rw [h], ?_, ?_, ?_⟩
  · unfold On.serve; split <;> rfl
  · unfold On.serve; split <;> rfl
  · unfold On.serve; split
    · rfl
    · simp
/-- Two owners, apart. -/
structure L2 (w0 w : World) (a b : Nat) (F G : Ft) (o p : On) : Prop where
  la : Lz w0 w a F o
  lb : Lz w0 w b G p
  fg : Apt F G
section
variable {w0 w w' : World} {a b : Nat} {F F' G G' : Ft} {o o' p p' : On}
theorem L2.below (h : L2 w0 w a b F G o p) (hb : Below w.heap.size w w') : L2 w0 w' a b F G o p := ⟨h.la.below hb, h.lb.below hb, h.fg⟩
theorem L2.goA (h : L2 w0 w a b F G o p) (hl : Lz w0 w' a F' o') (hn : Nx w w' F F') : L2 w0 w' a b F' G o' p := ⟨hl, h.lb.keeps hn.chg h.fg h.la.since, h.fg.next h.lb.lies hn⟩
theorem L2.goB (h : L2 w0 w a b F G o p) (hl : Lz w0 w' b G' p') (hn : Nx w w' G G') : L2 w0 w' a b F G' o p' := ⟨h.la.keeps hn.chg h.fg.symm h.lb.since, hl, (h.fg.symm.next h.la.lies hn).symm⟩
end
/-- The fourteen cells of a reply's box. -/
theorem rp_cells {w : World} {n : Nat} {p : Ry} {u : Value} (h : Hp w n 50 (rpC p u)) : (w.cell? ⟨n, 0, none⟩ = some (.int .i64 p.q.f) ∧ w.cell? ⟨n, 1, none⟩ = some (.int .i64 p.q.t) ∧ w.cell? ⟨n, 2, none⟩ = some (.bool p.q.wk) ∧ w.cell? ⟨n, 3, none⟩ = some (.int .i64 p.q.m) ∧ w.cell? ⟨n, 4, none⟩ = some (.int .i64 p.q.op) ∧ w.cell? ⟨n, 5, none⟩ = some (.int .u64 p.q.k) ∧ w.cell? ⟨n, 6, none⟩ = some (.int .u64 p.q.v)) ∧ w.cell? ⟨n, 7, none⟩ = some (.int .i64 p.x.E) ∧ w.cell? ⟨n, 8, none⟩ = some (.bool p.x.f) ∧ w.cell? ⟨n, 9, none⟩ = some (.int .u64 p.x.v) ∧ w.cell? ⟨n, 10, none⟩ = some (.bool p.x.o) ∧ w.cell? ⟨n, 11, none⟩ = some (.int .u64 p.x.k) ∧ w.cell? ⟨n, 12, none⟩ = some (.int .u64 p.x.u) ∧ w.cell? ⟨n, 13, none⟩ = some u :=
  ⟨⟨h.cell (j := 0) rfl, h.cell (j := 1) rfl, h.cell (j := 2) rfl, h.cell (j := 3) rfl, h.cell (j := 4) rfl, h.cell (j := 5) rfl, h.cell (j := 6) rfl⟩, h.cell (j := 7) rfl, h.cell (j := 8) rfl, h.cell (j := 9) rfl, h.cell (j := 10) rfl, h.cell (j := 11) rfl, h.cell (j := 12) rfl, h.cell (j := 13) rfl⟩
theorem filter_take {T : Rt → Bool} {qs : List Rt} {j : Nat} (hj : j < qs.length) : (qs.take (j + 1)).filter T = if T (qs.getD j Rt.nil) = true then (qs.take j).filter T ++ [qs.getD j Rt.nil] else (qs.take j).filter T := by
  rw [take_atR qs j hj, List.filter_append]
  by_cases h : T (qs.getD j Rt.nil) = true
  · rw [if_pos h, List.filter_cons_of_pos h]; rfl
  · rw [if_neg h, List.filter_cons_of_neg h]; simp
theorem drop_cons {qs : List Rt} {j : Nat} (hj : j < qs.length) : qs.drop j = qs.getD j Rt.nil :: qs.drop (j + 1) := by
  rw [List.drop_eq_getElem_cons hj]
  simp [List.getD, hj]
end Go.Proofs.Ytpbfgebecgikjaa
namespace Go.Proofs.Ytpbfgebecgikjaa
open Go.RowKit
set_option linter.unusedVariables false
set_option linter.unusedSimpArgs false
theorem splice_flat {α : Type} {f : α → List Value} {z : Nat} (hf : ∀ x, (f x).length = z) (x : α) : ∀ (xs : List α) {k : Nat}, k < xs.length → splice (flatG f xs) (k * z) (f x) = flatG f (xs.set k x)
  | [], k, h => by simp at h
  | y :: r, 0, _ => by
    have e : flatG f (y :: r) = f y ++ flatG f r := by simp [flatG]
    have e2 : flatG f ((y :: r).set 0 x) = f x ++ flatG f r := by simp [flatG]
    rw [e, e2, Nat.zero_mul, splice_ahead _ _ _ _ (by rw [hf, hf]; omega), splice_all _ _ (by rw [hf, hf])]
  | y :: r, k + 1, h => by
    have e : flatG f (y :: r) = f y ++ flatG f r := by simp [flatG]
    have e2 : flatG f ((y :: r).set (k + 1) x) = f y ++ flatG f (r.set k x) := by simp [flatG]
    have e3 : (k + 1) * z = (f y).length + k * z := by rw [hf, Nat.add_mul, Nat.one_mul, Nat.add_comm]
    rw [e, e2, e3, splice_behind, splice_flat hf x r (by simpa using h)]
theorem own_sets {B : Nat} {e : TypeId} {z g n cap : Nat} : ∀ (vs : List Value) {w : World} {xs : List Value} (o : Nat), w.ownsRow B e z (.slice (some ⟨g, 0, none⟩) n cap) n xs → (w.setCells g o vs).ownsRow B e z (.slice (some ⟨g, 0, none⟩) n cap) n (splice xs o vs)
  | [], w, xs, o, h => h
  | v :: r, w, xs, o, h => own_sets r (o + 1) (h.stored o v).1
theorem own_putG {α : Type} {f : α → List Value} {z : Nat} (hf : ∀ x, (f x).length = z) {w : World} {B : Nat} {e : TypeId} {g n cap : Nat} {xs : List α} (hn : xs.length = n) (h : w.ownsRow B e z (.slice (some ⟨g, 0, none⟩) n cap) n (flatG f xs)) {k : Nat} (hk : k < xs.length) (x : α) : (w.setCells g (k * z) (f x)).ownsRow B e z (.slice (some ⟨g, 0, none⟩) n cap) n (flatG f (xs.set k x)) := by
  have := own_sets (f x) (k * z) h
  rw [splice_flat hf x xs hk] at this
  exact this
end Go.Proofs.Ytpbfgebecgikjaa
namespace Go.Proofs.Ytpbfgebecgikjaa
open Go.RowKit
set_option linter.unusedVariables false
set_option linter.unusedSimpArgs false
set_option maxRecDepth 100000
theorem newO_sr {sh n : Int} {es : List (Int × Int)} {o : On} (h : newO sh n es = some o) (m : Int) : (o.sr m).1 = [] := by
  obtain ⟨_, _, _, ds, h1, rfl, _⟩ := newO_some h
  show ((List.replicate ds.length Sr.nil).getD m.toNat Sr.nil).1 = []
  simp only [List.getD, List.getElem?_replicate]
  split <;> rfl
set_option maxHeartbeats 25600000 in
theorem ownerFresh_ok (s n : Int) (mv : Value) (es : List (Int × Int)) (qv : Value) (qs : List Rt) (w : World) (hm : SeesG dfC 2 (0, 0) w mv es) (hs : SeesG rtC 7 Rt.nil w qv qs) (hwf : ∀ q ∈ qs, q.wf) (hlen : qs.length * 56 ≤ 140737488351232) :
    Calls Try.prog 5 #[shV s n mv, qv] w fun e w' => e = .returned (.bool true) ∧ Below w.heap.size w w' := by
  have HWF := keepG hwf
  have HMW := keepG (fun (wx : World) (hb : Below w.heap.size w wx) => hm.below hb (Nat.le_refl _))
  have HQW := keepG (fun (wx : World) (hb : Below w.heap.size w wx) => hs.below hb (Nat.le_refl _))
  obtain ⟨ma, mc, ev, hml, hmm⟩ := hm.shape
  subst ev
  obtain ⟨qa, qc, ev, hql, hqm⟩ := hs.shape
  subst ev
  obtain ⟨i0, hi0, hz0, hzs, hzb⟩ := info_parts infoRt
  obtain ⟨X, HX, HBX, HPX⟩ : ∃ X, Hid (w.alloc (.cells #[.int .i64 s, .int .i64 n, .slice ma es.length mc] 24) = X) ∧ Hid (Below w.heap.size w X) ∧ Hid (Hp X w.heap.size 24 [.int .i64 s, .int .i64 n, .slice ma es.length mc]) := ⟨_, rfl, below_allocG _ _, Hp.new w _ _⟩
  have HMV : Hid (∀ wx, Below X.heap.size X wx → SeesG dfC 2 (0, 0) wx (.slice ma es.length mc) es) := fun wx hb => HMW.out wx (HBX.out.trans (hb.mono HBX.out.size))
  have HQV : Hid (∀ wx, Below X.heap.size X wx → SeesG rtC 7 Rt.nil wx (.slice qa qs.length qc) qs) := fun wx hb => HQW.out wx (HBX.out.trans (hb.mono HBX.out.size))
  obtain ⟨nb, HNB⟩ : ∃ nb, Hid (w.heap.size = nb) := ⟨_, rfl⟩
  rw [HNB.out] at HPX
  have HBC2 : Hid (∀ wx, Below X.heap.size X wx → wx.cell? ⟨nb, 0, none⟩ = some (.int .i64 s) ∧ wx.cell? ⟨nb, 1, none⟩ = some (.int .i64 n) ∧ wx.cell? ⟨nb, 2, none⟩ = some (.slice ma es.length mc)) := by
    intro wx hb
    have h := HPX.out.below hb HPX.out.lt
    exact ⟨h.cell (j := 0) rfl, h.cell (j := 1) rfl, h.cell (j := 2) rfl⟩
  clear hm hs hwf HMW HQW
  go_enter Try.func5, Try.ntmps5
  cases hn : newO s n es with
  | none =>
    have HN := keepG hn
    clear hn
    go_wp2_with (first
      | (go_at_call 7; rw [HX.out, HNB.out]; go_must (refine (awake22_any X).mono ?_); rintro e w1 ⟨rfl, hb1⟩; go_must (have HB1 := keepG hb1; obtain ⟨c0, c1, c2⟩ := HBC2.out w1 hb1; clear hb1))
      | (have hq := HB2; clear hq; go_at_call 8; go_must (refine (lonew_no s n w2 (HMV.out w2 HB2.out) HN).mono ?_); rintro e w3 ⟨rfl, hb3⟩; go_must (have HB3 := keepG (HB2.out.trans (hb3.mono HB2.out.size)); clear hb3))
      | (go_at_call 8; go_must (refine (lonew_no s n w1 (HMV.out w1 HB1.out) HN).mono ?_); rintro e w2 ⟨rfl, hb2⟩; go_must (have HB2 := keepG (HB1.out.trans (hb2.mono HB1.out.size)); obtain ⟨c20, c21, c22⟩ := HBC2.out w2 HB2.out; clear hb2)))
    go_ret
    exact ⟨rfl, HBX.out.trans (HB3.out.mono HBX.out.size)⟩
  | some o =>
    have HN := keepG hn
    obtain ⟨hol, hov, hon, hst⟩ := newO_line hn
    have HOL := keepG hol
    have HOV := keepG hov
    have HON := keepG hon
    have HOS := keepG hst
    have HSR := keepG (newO_sr hn)
    clear hn hol hov hon hst
    go_wp2_with (first
      | (go_at_call 7; rw [HX.out, HNB.out]; go_must (refine (awake22_any X).mono ?_); rintro e w1 ⟨rfl, hb1⟩; go_must (have HB1 := keepG hb1; obtain ⟨c0, c1, c2⟩ := HBC2.out w1 hb1; clear hb1))
      | (have hq := HL2; clear hq; go_at_call 8; go_must (refine (lznew_ok s n HL2.out.be (HMV.out w2 HL2.out.be) HN).mono ?_); rintro e w3 ⟨b, G0, rfl, hL, hS, hb⟩; go_must (have HL3 : Hid (L2 X w3 a b F0 G0 o o) := ⟨HL2.out.below hb, hL, Apt.made HL2.out.lies hS⟩; clear hL hS hb))
      | (go_at_call 8; go_must (refine (lznew_ok s n HB1.out (HMV.out w1 HB1.out) HN).mono ?_); rintro e w2 ⟨a, F0, rfl, hL, _, hb2⟩; go_must (have HL2 := keepG hL; obtain ⟨c20, c21, c22⟩ := HBC2.out w2 (HB1.out.trans (hb2.mono HB1.out.size)); clear hL hb2)))
    clear HL2 HB1
    obtain ⟨T, HT⟩ : ∃ T, Hid (o.takes = T) := ⟨_, rfl⟩
    go_loopw [9] (fun i wr => ∃ j : Nat, j ≤ qs.length ∧ j ≤ 500 ∧ i = .int .i64 j ∧ ∃ F, Hid (L2 X wr a b F G0 (o.line ((qs.take j).filter T)) o)) (fun i _ => qs.length - (intOf i).toNat)
    case atStart => exact ⟨0, by omega, by omega, rfl, F0, by rw [show o.line ((qs.take 0).filter T) = o from HOL.out]; exact HL3.out⟩
    case round =>
      clear HL3
      obtain ⟨j, hj, hj5, rfl, F, HM⟩ := hrel
      rename World => wr
      have hfl : ((qs.take j).filter T).length ≤ j := by have := List.length_filter_le T (qs.take j); simp at this; omega
      obtain ⟨L, HL⟩ : ∃ L, Hid ((qs.take j).filter T = L) := ⟨_, rfl⟩
      rw [HL.out] at hfl HM
      by_cases hlt : j < qs.length
      · have hltI : (j : Int) < qs.length := by omega
        by_cases hj3 : j < 500
        · have hj3I : (j : Int) < 500 := by omega
          obtain ⟨p, off, ev, hat⟩ := rtAt (HQV.out wr HM.out.la.be) hlt
          subst ev
          obtain ⟨q, HQ⟩ : ∃ q, Hid (qs.getD j Rt.nil = q) := ⟨_, rfl⟩
          obtain ⟨d0, d1, d2, d3, d4, d5, d6⟩ := hat j hlt q HQ.out
          have hqw := HWF.out _ (getD_memR2 qs j hlt)
          have hft := filter_take (T := T) hlt
          rw [HQ.out] at hqw hft
          rw [HL.out] at hft
          have hso := send_one HOV.out L q
          rw [HT.out] at hso
          obtain ⟨E, o', HS1, HF1⟩ : ∃ E o', Hid ((o.line L).send [q] = (E, o')) ∧ Hid (o' = o.line ((qs.take (j + 1)).filter T)) := by
            refine ⟨_, _, rfl, ?_⟩
            show ((o.line L).send [q]).2 = _
            rw [hso, hft]
            split <;> rfl
          have HZS : Hid (((o.line L).ln.length + [q].length) * 56 ≤ 140737488355328) := by show (L.length + 1) * 56 ≤ _; omega
          obtain ⟨Z, HZ, hbZ, HSZ⟩ : ∃ Z, Hid (wr.alloc (.cells #[.int .i64 q.f, .int .i64 q.t, .bool q.wk, .int .i64 q.m, .int .i64 q.op, .int .u64 q.k, .int .u64 q.v] 45) = Z) ∧ Below wr.heap.size wr Z ∧ Hid (SeesG rtC 7 Rt.nil Z (.slice (some ⟨wr.heap.size, 0, none⟩) 1 1) [q]) := ⟨_, rfl, below_allocG _ _, lit_rts wr [q] (by simp)⟩
          have HMZ := keepG (HM.out.below hbZ)
          have HAZ := keepG (HM.out.la.aptN (α := Rt) (ws := [q]) (v := .slice (some ⟨wr.heap.size, 0, none⟩) 1 1) (fun k e => ft_litO e))
          have HW1 : Hid (∀ x ∈ [q], x.wf) := by intro x hx; rw [List.mem_singleton.1 hx]; exact hqw
          clear hat hft hso hbZ HM
          go_wp2_with (go_at_call 10; rw [HZ.out]; go_must (refine (HMZ.out.la.send HZS HSZ.out HW1.out HAZ.out HS1).mono ?_); rintro e w5 ⟨rfl, F5, hL5, hn5⟩; go_must (have HM5 := keepG (HMZ.out.goA hL5 hn5); clear hL5 hn5))
          go_roundw
          case rel => exact ⟨j + 1, by omega, by omega, by go_num, F5, by rw [← HF1.out]; exact HM5.out⟩
          case measure => simp [intOf]; omega
        · have hj3I : ¬ (j : Int) < 500 := by omega
          have HLL : Hid ((o.line L).ln = L) := rfl
          have hL5 : L.length ≤ 500 := by omega
          have HZW : Hid ((o.line L).ln.length * 56 ≤ 140737488355328) := by show L.length * 56 ≤ _; omega
          have HZ0 : Hid (o.ln.length * 56 ≤ 140737488355328) := by show _ ≤ _; rw [HON.out]; simp
          have hw1 : IntKind.i64.wrap ((L.length : Int) + 1) = (L.length : Int) + 1 := by rw [IntKind.wrap_i64]; omega
          go_wp2_with (first
            | (have hq := HM2; clear hq; go_at_call 21; go_must (refine (HM2.out.la.waiting HZW HLL).mono ?_); rintro e w3 ⟨a3, c3, rfl, hr3, hb3⟩; go_must (have HM3 := keepG (HM2.out.below hb3); have HA3 := keepG ((HA1.out.below hb1b).below hb3); have HC3 := keepG hr3; have HB12 := keepG hb1b; have HZ23 := keepG hb3.size; clear hb1b hb3 hr3))
            | (have hq := HM1; clear hq; go_at_call 21; go_must (refine (HM1.out.lb.waiting HZ0 HON).mono ?_); rintro e w2 ⟨a2, c2, rfl, -, hb1b⟩; go_must (have HM2 := keepG (HM1.out.below hb1b)))
            | (go_at_call 21; go_must (refine (HM.out.la.waiting HZW HLL).mono ?_); rintro e w1 ⟨a1, c1, rfl, hr1, hb1⟩; go_must (have HM1 := keepG (HM.out.below hb1); have HA1 := keepG hr1; have HZ01 := keepG hb1.size; clear hb1 hr1)))
          have HB12' := HB12.out.size
          have HAF : Hid (Apt (ftV (.slice a1 L.length c1)) F ∧ Apt (ftV (.slice a1 L.length c1)) G0 ∧ Apt (ftV (.slice a1 L.length c1)) (ftV (.slice a3 L.length c3)) ∧ Since X (ftV (.slice a1 L.length c1))) := by
            refine ⟨fun k e1 e2 => ?_, fun k e1 e2 => ?_, fun k e1 e2 => ?_, fun k e1 => ?_⟩
            · have := (HA1.out.lt k e1).1; have := HM.out.la.lies k e2; omega
            · have := (HA1.out.lt k e1).1; have := HM.out.lb.lies k e2; omega
            · have := (HA1.out.lt k e1).2; have := (HC3.out.lt k e2).1; omega
            · have := (HA1.out.lt k e1).1; have := HM.out.la.be.size; omega
          have HWR3 : Hid (wr.heap.size ≤ w3.heap.size) := Nat.le_trans HZ01.out (Nat.le_trans HB12' HZ23.out)
          clear HM1 HM2 HA1 HB12 HB12' HM HZ23 HZ01
          go_loopw [12] (fun i wz => ∃ (z : Nat) (Y : List Rt), z ≤ L.length ∧ i = .int .i64 z ∧ Hid (Y.length = L.length ∧ RoRt wz wr.heap.size (.slice a1 L.length c1) Y ∧ RoRt wz w2.heap.size (.slice a3 L.length c3) L ∧ L2 X wz a b F G0 (o.line L) o) ∧ Hid (wr.heap.size ≤ wz.heap.size)) (fun i _ => L.length - (intOf i).toNat)
          case atStart => exact ⟨0, L, by omega, rfl, ⟨rfl, HA3.out, HC3.out, HM3.out⟩, HWR3.out⟩
          case round =>
            clear HA3 HC3 HM3
            obtain ⟨z, Y, hz, rfl, HY, HWZ⟩ := hrel
            rename World => wz
            by_cases hzt : z < L.length
            · have hztI : (z : Int) < L.length := by omega
              have hYz : z < Y.length := by have := HY.out.1; omega
              have HOR : Hid (wz.ownsRow wr.heap.size 45 7 (.slice a1 L.length c1) L.length (flatG rtC Y)) := by have h5 := HY.out.2.1; unfold RoRt at h5; rw [HY.out.1] at h5; exact h5
              obtain ⟨g, cap, ev, hg1, hg2, hcap, hcm, hat⟩ := own_atG rtC_len Rt.nil HY.out.2.1 (by omega)
              rw [HY.out.1] at ev
              simp only [Value.slice.injEq, true_and] at ev
              obtain ⟨rfl, rfl⟩ := ev
              have g0 := hat z hYz 0 (by omega)
              have g1 := hat z hYz 1 (by omega)
              have g2 := hat z hYz 2 (by omega)
              have g3 := hat z hYz 3 (by omega)
              have g4 := hat z hYz 4 (by omega)
              have g5 := hat z hYz 5 (by omega)
              have g6 := hat z hYz 6 (by omega)
              simp only [List.getElem?_cons_zero, List.getElem?_cons_succ, Nat.add_zero] at g0 g1 g2 g3 g4 g5 g6
              obtain ⟨g0, f0⟩ := g0
              obtain ⟨g1, f1⟩ := g1
              obtain ⟨g2, f2⟩ := g2
              obtain ⟨g3, f3⟩ := g3
              obtain ⟨g4, f4⟩ := g4
              obtain ⟨g5, f5⟩ := g5
              obtain ⟨g6, f6⟩ := g6
              obtain ⟨qz, HQZ⟩ : ∃ qz, Hid (Y.getD z Rt.nil = qz) := ⟨_, rfl⟩
              rw [HQZ.out] at g0 g1 g2 g3 g4 g5 g6
              have hpu := own_putG rtC_len HY.out.1 HOR.out hYz ⟨-9, 0, false, 0, 0, 0, 0⟩
              have hcs := Chg.sets wz g (z * 7) (rtC ⟨-9, 0, false, 0, 0, 0, 0⟩)
              have HYN : Hid ((Y.set z ⟨-9, 0, false, 0, 0, 0, 0⟩).length = L.length ∧ RoRt (wz.setCells g (z * 7) (rtC ⟨-9, 0, false, 0, 0, 0, 0⟩)) wr.heap.size (.slice (some ⟨g, 0, none⟩) L.length c1) (Y.set z ⟨-9, 0, false, 0, 0, 0, 0⟩) ∧ RoRt (wz.setCells g (z * 7) (rtC ⟨-9, 0, false, 0, 0, 0, 0⟩)) w2.heap.size (.slice a3 L.length c3) L ∧ L2 X (wz.setCells g (z * 7) (rtC ⟨-9, 0, false, 0, 0, 0, 0⟩)) a b F G0 (o.line L) o) := by
                have hl : (Y.set z ⟨-9, 0, false, 0, 0, 0, 0⟩).length = L.length := by rw [List.length_set]; exact HY.out.1
                refine ⟨hl, ?_, own_chg HY.out.2.2.1 hcs (fun k hk e => ?_), ⟨HY.out.2.2.2.la.keeps hcs (fun k e1 e2 => ?_) (fun k e1 => ?_), HY.out.2.2.2.lb.keeps hcs (fun k e1 e2 => ?_) (fun k e1 => ?_), HY.out.2.2.2.fg⟩⟩
                · unfold RoRt; rw [hl]; exact hpu
                · subst e; exact HAF.out.2.2.1 k rfl hk
                · subst e1; exact HAF.out.1 k rfl e2
                · subst e1; exact HAF.out.2.2.2 k rfl
                · subst e1; exact HAF.out.2.1 k rfl e2
                · subst e1; exact HAF.out.2.2.2 k rfl
              have HWZ2 := keepG (Nat.le_trans HWZ.out hcs.size)
              clear hat hpu hcs HY HOR
              go_wp2
              go_roundw
              case rel => exact ⟨z + 1, Y.set z ⟨-9, 0, false, 0, 0, 0, 0⟩, by omega, by go_num, HYN.out, HWZ2.out⟩
              case measure => simp [intOf]; omega
            · have hztI : ¬ (z : Int) < L.length := by omega
              have HOR : Hid (wz.ownsRow wr.heap.size 45 7 (.slice a1 L.length c1) L.length (flatG rtC Y)) := by have h5 := HY.out.2.1; unfold RoRt at h5; rw [HY.out.1] at h5; exact h5
              have HX3 := keepG HY.out.2.2.1
              have HMz := keepG HY.out.2.2.2
              have hBz : wr.heap.size ≤ wz.heap.size := HWZ.out
              clear HY
              go_wp2_with (first
                | (at_builtin; go_must (refine wpList_append_own_at _ rfl _ _ 34 rfl wr.heap.size 45 i0 _ 7 56 Try.underlying34 hi0 hz0 hzs hzb rfl (by decide) (.slice a1 L.length c1) L.length (flatG rtC Y) rfl (HOR.out.alloc _) ⟨_, 0, none⟩ 1 1 (rtC Rt.nil) rfl rfl (cells_new _ (rtC Rt.nil) _ _ rfl) (rt_one _) (by unfold maxLen; omega) (by omega) (by simp; omega) ?_); intro v9 w9 hown hgr _ _; go_must (obtain ⟨va9, vc9, ev⟩ := own_shape hown; subst ev; have hcg := chg_append hgr; have HM9 : Hid (L2 X w9 a b F G0 (o.line L) o) := ⟨HMz.out.la.keeps hcg (fun k e1 e2 => HAF.out.1 k e1 e2) HAF.out.2.2.2, HMz.out.lb.keeps hcg (fun k e1 e2 => HAF.out.2.1 k e1 e2) HAF.out.2.2.2, HMz.out.fg⟩; have HX9 := keepG (own_chg HX3.out hcg (fun k hk e => HAF.out.2.2.1 k e hk)); clear hown hgr hcg))
                | (go_at_call 21; go_must (refine (HM9.out.la.waiting HZW HLL).mono ?_); rintro e w10 ⟨a10, c10, rfl, hr10, hb10⟩; go_must (have HM10 := keepG (HM9.out.below hb10); have HX10 := keepG (RoRt.below HX9.out hb10); have HR10 := keepG hr10; clear hb10 hr10))
                | (go_at_call 12; go_must (refine (wlines HR10.out.sees (RoRt.sees HX10.out)).mono ?_); rintro e w11 ⟨rfl, hb11⟩; go_must (have HM11 := keepG (HM10.out.below hb11); clear hb11)))
              clear HM9 HX9 HM10 HX10 HR10 HX3 HMz HOR
              go_loopw [13] (fun i wy => ∃ y : Nat, y ≤ L.length ∧ i = .int .i64 y ∧ ∃ F c, Hid (L2 X wy a b F G0 c o ∧ c.ln = L.drop y ∧ c.st.length = es.length)) (fun i _ => L.length - (intOf i).toNat)
              case atStart => exact ⟨0, by omega, rfl, F, o.line L, HM11.out, rfl, HOS.out⟩
              case round =>
                clear HM11
                obtain ⟨y, hy, rfl, F2, c, HC⟩ := hrel
                rename World => wy
                by_cases hyt : y < L.length
                · have hytI : (y : Int) < L.length := by omega
                  obtain ⟨p, c', e1, e2, -, e4⟩ := step_cons (HC.out.2.1.trans (drop_cons hyt))
                  have HST := keepG e1
                  have HLN := keepG e2
                  have HSL : Hid (c'.st.length = es.length) := e4.trans HC.out.2.2
                  have HZC : Hid (c.ln.length * 56 ≤ 140737488355328) := by show _ ≤ _; rw [HC.out.2.1, List.length_drop]; omega
                  clear e1 e2 e4
                  go_wp2_with (go_at_call 13; go_must (refine (HC.out.1.la.step HZC HST).mono ?_); rintro e w12 ⟨a12, c12, rfl, F12, hL12, hn12, -, -⟩; go_must (have HM12 := keepG (HC.out.1.goA hL12 hn12); clear hL12 hn12))
                  go_roundw
                  case rel => exact ⟨y + 1, by omega, by go_num, F12, c', HM12.out, HLN.out, HSL.out⟩
                  case measure => simp [intOf]; omega
                · have hytI : ¬ (y : Int) < L.length := by omega
                  have HMy := keepG HC.out.1
                  have HSL := keepG HC.out.2.2
                  clear HC
                  go_wp2
                  go_loopw [14] (fun i wm => ∃ m : Nat, m ≤ es.length ∧ i = .int .i64 m ∧ Hid (L2 X wm a b F2 G0 c o)) (fun i _ => es.length - (intOf i).toNat)
                  case atStart => exact ⟨0, by omega, rfl, HMy.out⟩
                  case round =>
                    clear HMy
                    obtain ⟨m, hm5, rfl, HMm⟩ := hrel
                    rename World => wm
                    obtain ⟨-, -, k2⟩ := HBC2.out wm HMm.out.la.be
                    by_cases hmt : m < es.length
                    · have hmtI : (m : Int) < es.length := by omega
                      have hha : c.hasM m = true := On.hasM_of (by rw [HSL.out]; exact hmt)
                      have hhb : o.hasM m = true := On.hasM_of (by rw [HOS.out]; exact hmt)
                      obtain ⟨P, HP⟩ : ∃ P, Hid ((c.sr m).1 = P) := ⟨_, rfl⟩
                      have HQA : Hid ((if c.hasM m = true then ((0 : Int), (c.sr m).1) else (2, [])) = (0, P)) := by show _ = _; rw [if_pos hha, HP.out]
                      have HQB : Hid ((if o.hasM m = true then ((0 : Int), (o.sr m).1) else (2, [])) = (0, [])) := by show _ = _; rw [if_pos hhb, HSR.out]
                      have hPl : P.length ≤ 16 := by
                        have h5 := HMm.out.la.ok
                        have h6 := (h5.inv m (by rw [← h5.len, HSL.out]; exact hmt))
                        have h7 := h6.1.len
                        rw [← HP.out]
                        show (c.st.getD (m : Int).toNat Sr.nil).1.length ≤ 16
                        have e : (m : Int).toNat = m := rfl
                        rw [e]
                        omega
                      clear hha hhb HP
                      go_wp2_with (first
                        | (have hq := HRa; clear hq; go_at_call 18; go_must (refine (HMa.out.la.pairs m HQA).mono ?_); rintro e wb ⟨ab, cb, rfl, hrb, hbb⟩; go_must (have HMb := keepG (HMa.out.below hbb); have HRa2 := keepG (HRa.out.below hbb); have HRb := keepG hrb; clear hbb hrb))
                        | (go_at_call 18; go_must (refine (HMm.out.la.pairs m HQA).mono ?_); rintro e wa ⟨aa, ca, rfl, hra, hba⟩; go_must (have HMa := keepG (HMm.out.below hba); have HRa := keepG hra; clear hba hra)))
                      have HAP : Hid (Apt (ftV (.slice aa P.length ca)) F2 ∧ Apt (ftV (.slice aa P.length ca)) G0 ∧ Apt (ftV (.slice aa P.length ca)) (ftV (.slice ab P.length cb)) ∧ Since X (ftV (.slice aa P.length ca))) := by
                        refine ⟨fun k e1 e2 => ?_, fun k e1 e2 => ?_, fun k e1 e2 => ?_, fun k e1 => ?_⟩
                        · have := (HRa.out.lt k e1).1; have := HMm.out.la.lies k e2; omega
                        · have := (HRa.out.lt k e1).1; have := HMm.out.lb.lies k e2; omega
                        · have := (HRa.out.lt k e1).2; have := (HRb.out.lt k e2).1; omega
                        · have := (HRa.out.lt k e1).1; have := HMm.out.la.be.size; omega
                      clear HRa HMa
                      go_loopw [19] (fun i wt => ∃ (t : Nat) (Y : List Pp), t ≤ P.length ∧ i = .int .i64 t ∧ Hid (Y.length = P.length ∧ RoPp wt wm.heap.size (.slice aa P.length ca) Y ∧ RoPp wt wa.heap.size (.slice ab P.length cb) P ∧ L2 X wt a b F2 G0 c o)) (fun i _ => P.length - (intOf i).toNat)
                      case atStart => exact ⟨0, P, by omega, rfl, rfl, HRa2.out, HRb.out, HMb.out⟩
                      case round =>
                        clear HRa2 HRb HMb
                        obtain ⟨t, Y, ht, rfl, HY⟩ := hrel
                        rename World => wt
                        by_cases htt : t < P.length
                        · have httI : (t : Int) < P.length := by omega
                          have hYt : t < Y.length := by have := HY.out.1; omega
                          have HOR : Hid (wt.ownsRow wm.heap.size 80 2 (.slice aa P.length ca) P.length (flatG ppC Y)) := by have h5 := HY.out.2.1; unfold RoPp at h5; rw [HY.out.1] at h5; exact h5
                          obtain ⟨g, cap, ev, hg1, hg2, hcap, hcm, hat⟩ := own_atG ppC_len Pp.nil HY.out.2.1 (by omega)
                          rw [HY.out.1] at ev
                          simp only [Value.slice.injEq, true_and] at ev
                          obtain ⟨rfl, rfl⟩ := ev
                          have g0 := hat t hYt 0 (by omega)
                          have g1 := hat t hYt 1 (by omega)
                          simp only [List.getElem?_cons_zero, List.getElem?_cons_succ, Nat.add_zero] at g0 g1
                          obtain ⟨g0, f0⟩ := g0
                          obtain ⟨g1, f1⟩ := g1
                          obtain ⟨qz, HQZ⟩ : ∃ qz, Hid (Y.getD t Pp.nil = qz) := ⟨_, rfl⟩
                          rw [HQZ.out] at g0 g1
                          have hpu := own_putG ppC_len HY.out.1 HOR.out hYt ⟨9999, 0⟩
                          have hcs := Chg.sets wt g (t * 2) (ppC ⟨9999, 0⟩)
                          have HYN : Hid ((Y.set t ⟨9999, 0⟩).length = P.length ∧ RoPp (wt.setCells g (t * 2) (ppC ⟨9999, 0⟩)) wm.heap.size (.slice (some ⟨g, 0, none⟩) P.length ca) (Y.set t ⟨9999, 0⟩) ∧ RoPp (wt.setCells g (t * 2) (ppC ⟨9999, 0⟩)) wa.heap.size (.slice ab P.length cb) P ∧ L2 X (wt.setCells g (t * 2) (ppC ⟨9999, 0⟩)) a b F2 G0 c o) := by
                            have hl : (Y.set t ⟨9999, 0⟩).length = P.length := by rw [List.length_set]; exact HY.out.1
                            refine ⟨hl, ?_, own_chg HY.out.2.2.1 hcs (fun k hk e => ?_), ⟨HY.out.2.2.2.la.keeps hcs (fun k e1 e2 => ?_) (fun k e1 => ?_), HY.out.2.2.2.lb.keeps hcs (fun k e1 e2 => ?_) (fun k e1 => ?_), HY.out.2.2.2.fg⟩⟩
                            · unfold RoPp; rw [hl]; exact hpu
                            · subst e; exact HAP.out.2.2.1 k rfl hk
                            · subst e1; exact HAP.out.1 k rfl e2
                            · subst e1; exact HAP.out.2.2.2 k rfl
                            · subst e1; exact HAP.out.2.1 k rfl e2
                            · subst e1; exact HAP.out.2.2.2 k rfl
                          clear hat hpu hcs HY HOR
                          go_wp2
                          go_roundw
                          case rel => exact ⟨t + 1, Y.set t ⟨9999, 0⟩, by omega, by go_num, HYN.out⟩
                          case measure => simp [intOf]; omega
                        · have httI : ¬ (t : Int) < P.length := by omega
                          have HRt := keepG HY.out.2.2.1
                          have HMt := keepG HY.out.2.2.2
                          clear HY
                          go_wp2_with (first
                            | (have hq := HMr; clear hq; go_at_call 18; go_must (refine (HMr.out.lb.pairs m HQB).mono ?_); rintro e wn ⟨an, cn, rfl, -, hbn⟩; go_must (have HMn := keepG (HMr.out.below hbn); have HQn := keepG (RoPp.below HRt2.out hbn); have HRn := keepG (RoPp.below HRr.out hbn); clear hbn))
                            | (go_at_call 18; go_must (refine (HMt.out.la.pairs m HQA).mono ?_); rintro e wq ⟨ar, cr, rfl, hrr, hbr⟩; go_must (have HMr := keepG (HMt.out.below hbr); have HRt2 := keepG (RoPp.below HRt.out hbr); have HRr := keepG hrr; clear hbr hrr))
                            | (go_at_call 19; go_must (refine (wpairs22 (own_seesG ppC_len Pp.nil HQn.out) (own_seesG ppC_len Pp.nil HRn.out)).mono ?_); rintro e wo ⟨rfl, hbo⟩; go_must (have HMo := keepG (HMn.out.below hbo); clear hbo)))
                          go_roundw
                          case rel => exact ⟨m + 1, by omega, by go_num, HMo.out⟩
                          case measure => simp [intOf]; omega
                    · have hmtI : ¬ (m : Int) < es.length := by omega
                      go_wp2
                      go_ret
                      exact ⟨rfl, HBX.out.trans (HMm.out.la.be.mono HBX.out.size)⟩
      · have hltI : ¬ (j : Int) < qs.length := by omega
        have HLL : Hid ((o.line L).ln = L) := rfl
        have hL5 : L.length ≤ 500 := by omega
        have HZW : Hid ((o.line L).ln.length * 56 ≤ 140737488355328) := by show L.length * 56 ≤ _; omega
        have HZ0 : Hid (o.ln.length * 56 ≤ 140737488355328) := by show _ ≤ _; rw [HON.out]; simp
        have hw1 : IntKind.i64.wrap ((L.length : Int) + 1) = (L.length : Int) + 1 := by rw [IntKind.wrap_i64]; omega
        go_wp2_with (first
          | (have hq := HM2; clear hq; go_at_call 21; go_must (refine (HM2.out.la.waiting HZW HLL).mono ?_); rintro e w3 ⟨a3, c3, rfl, hr3, hb3⟩; go_must (have HM3 := keepG (HM2.out.below hb3); have HA3 := keepG ((HA1.out.below hb1b).below hb3); have HC3 := keepG hr3; have HB12 := keepG hb1b; have HZ23 := keepG hb3.size; clear hb1b hb3 hr3))
          | (have hq := HM1; clear hq; go_at_call 21; go_must (refine (HM1.out.lb.waiting HZ0 HON).mono ?_); rintro e w2 ⟨a2, c2, rfl, -, hb1b⟩; go_must (have HM2 := keepG (HM1.out.below hb1b)))
          | (go_at_call 21; go_must (refine (HM.out.la.waiting HZW HLL).mono ?_); rintro e w1 ⟨a1, c1, rfl, hr1, hb1⟩; go_must (have HM1 := keepG (HM.out.below hb1); have HA1 := keepG hr1; have HZ01 := keepG hb1.size; clear hb1 hr1)))
        have HB12' := HB12.out.size
        have HAF : Hid (Apt (ftV (.slice a1 L.length c1)) F ∧ Apt (ftV (.slice a1 L.length c1)) G0 ∧ Apt (ftV (.slice a1 L.length c1)) (ftV (.slice a3 L.length c3)) ∧ Since X (ftV (.slice a1 L.length c1))) := by
          refine ⟨fun k e1 e2 => ?_, fun k e1 e2 => ?_, fun k e1 e2 => ?_, fun k e1 => ?_⟩
          · have := (HA1.out.lt k e1).1; have := HM.out.la.lies k e2; omega
          · have := (HA1.out.lt k e1).1; have := HM.out.lb.lies k e2; omega
          · have := (HA1.out.lt k e1).2; have := (HC3.out.lt k e2).1; omega
          · have := (HA1.out.lt k e1).1; have := HM.out.la.be.size; omega
        have HWR3 : Hid (wr.heap.size ≤ w3.heap.size) := Nat.le_trans HZ01.out (Nat.le_trans HB12' HZ23.out)
        clear HM1 HM2 HA1 HB12 HB12' HM HZ23 HZ01
        go_loopw [12] (fun i wz => ∃ (z : Nat) (Y : List Rt), z ≤ L.length ∧ i = .int .i64 z ∧ Hid (Y.length = L.length ∧ RoRt wz wr.heap.size (.slice a1 L.length c1) Y ∧ RoRt wz w2.heap.size (.slice a3 L.length c3) L ∧ L2 X wz a b F G0 (o.line L) o) ∧ Hid (wr.heap.size ≤ wz.heap.size)) (fun i _ => L.length - (intOf i).toNat)
        case atStart => exact ⟨0, L, by omega, rfl, ⟨rfl, HA3.out, HC3.out, HM3.out⟩, HWR3.out⟩
        case round =>
          clear HA3 HC3 HM3
          obtain ⟨z, Y, hz, rfl, HY, HWZ⟩ := hrel
          rename World => wz
          by_cases hzt : z < L.length
          · have hztI : (z : Int) < L.length := by omega
            have hYz : z < Y.length := by have := HY.out.1; omega
            have HOR : Hid (wz.ownsRow wr.heap.size 45 7 (.slice a1 L.length c1) L.length (flatG rtC Y)) := by have h5 := HY.out.2.1; unfold RoRt at h5; rw [HY.out.1] at h5; exact h5
            obtain ⟨g, cap, ev, hg1, hg2, hcap, hcm, hat⟩ := own_atG rtC_len Rt.nil HY.out.2.1 (by omega)
            rw [HY.out.1] at ev
            simp only [Value.slice.injEq, true_and] at ev
            obtain ⟨rfl, rfl⟩ := ev
            have g0 := hat z hYz 0 (by omega)
            have g1 := hat z hYz 1 (by omega)
            have g2 := hat z hYz 2 (by omega)
            have g3 := hat z hYz 3 (by omega)
            have g4 := hat z hYz 4 (by omega)
            have g5 := hat z hYz 5 (by omega)
            have g6 := hat z hYz 6 (by omega)
            simp only [List.getElem?_cons_zero, List.getElem?_cons_succ, Nat.add_zero] at g0 g1 g2 g3 g4 g5 g6
            obtain ⟨g0, f0⟩ := g0
            obtain ⟨g1, f1⟩ := g1
            obtain ⟨g2, f2⟩ := g2
            obtain ⟨g3, f3⟩ := g3
            obtain ⟨g4, f4⟩ := g4
            obtain ⟨g5, f5⟩ := g5
            obtain ⟨g6, f6⟩ := g6
            obtain ⟨qz, HQZ⟩ : ∃ qz, Hid (Y.getD z Rt.nil = qz) := ⟨_, rfl⟩
            rw [HQZ.out] at g0 g1 g2 g3 g4 g5 g6
            have hpu := own_putG rtC_len HY.out.1 HOR.out hYz ⟨-9, 0, false, 0, 0, 0, 0⟩
            have hcs := Chg.sets wz g (z * 7) (rtC ⟨-9, 0, false, 0, 0, 0, 0⟩)
            have HYN : Hid ((Y.set z ⟨-9, 0, false, 0, 0, 0, 0⟩).length = L.length ∧ RoRt (wz.setCells g (z * 7) (rtC ⟨-9, 0, false, 0, 0, 0, 0⟩)) wr.heap.size (.slice (some ⟨g, 0, none⟩) L.length c1) (Y.set z ⟨-9, 0, false, 0, 0, 0, 0⟩) ∧ RoRt (wz.setCells g (z * 7) (rtC ⟨-9, 0, false, 0, 0, 0, 0⟩)) w2.heap.size (.slice a3 L.length c3) L ∧ L2 X (wz.setCells g (z * 7) (rtC ⟨-9, 0, false, 0, 0, 0, 0⟩)) a b F G0 (o.line L) o) := by
              have hl : (Y.set z ⟨-9, 0, false, 0, 0, 0, 0⟩).length = L.length := by rw [List.length_set]; exact HY.out.1
              refine ⟨hl, ?_, own_chg HY.out.2.2.1 hcs (fun k hk e => ?_), ⟨HY.out.2.2.2.la.keeps hcs (fun k e1 e2 => ?_) (fun k e1 => ?_), HY.out.2.2.2.lb.keeps hcs (fun k e1 e2 => ?_) (fun k e1 => ?_), HY.out.2.2.2.fg⟩⟩
              · unfold RoRt; rw [hl]; exact hpu
              · subst e; exact HAF.out.2.2.1 k rfl hk
              · subst e1; exact HAF.out.1 k rfl e2
              · subst e1; exact HAF.out.2.2.2 k rfl
              · subst e1; exact HAF.out.2.1 k rfl e2
              · subst e1; exact HAF.out.2.2.2 k rfl
            have HWZ2 := keepG (Nat.le_trans HWZ.out hcs.size)
            clear hat hpu hcs HY HOR
            go_wp2
            go_roundw
            case rel => exact ⟨z + 1, Y.set z ⟨-9, 0, false, 0, 0, 0, 0⟩, by omega, by go_num, HYN.out, HWZ2.out⟩
            case measure => simp [intOf]; omega
          · have hztI : ¬ (z : Int) < L.length := by omega
            have HOR : Hid (wz.ownsRow wr.heap.size 45 7 (.slice a1 L.length c1) L.length (flatG rtC Y)) := by have h5 := HY.out.2.1; unfold RoRt at h5; rw [HY.out.1] at h5; exact h5
            have HX3 := keepG HY.out.2.2.1
            have HMz := keepG HY.out.2.2.2
            have hBz : wr.heap.size ≤ wz.heap.size := HWZ.out
            clear HY
            go_wp2_with (first
              | (at_builtin; go_must (refine wpList_append_own_at _ rfl _ _ 34 rfl wr.heap.size 45 i0 _ 7 56 Try.underlying34 hi0 hz0 hzs hzb rfl (by decide) (.slice a1 L.length c1) L.length (flatG rtC Y) rfl (HOR.out.alloc _) ⟨_, 0, none⟩ 1 1 (rtC Rt.nil) rfl rfl (cells_new _ (rtC Rt.nil) _ _ rfl) (rt_one _) (by unfold maxLen; omega) (by omega) (by simp; omega) ?_); intro v9 w9 hown hgr _ _; go_must (obtain ⟨va9, vc9, ev⟩ := own_shape hown; subst ev; have hcg := chg_append hgr; have HM9 : Hid (L2 X w9 a b F G0 (o.line L) o) := ⟨HMz.out.la.keeps hcg (fun k e1 e2 => HAF.out.1 k e1 e2) HAF.out.2.2.2, HMz.out.lb.keeps hcg (fun k e1 e2 => HAF.out.2.1 k e1 e2) HAF.out.2.2.2, HMz.out.fg⟩; have HX9 := keepG (own_chg HX3.out hcg (fun k hk e => HAF.out.2.2.1 k e hk)); clear hown hgr hcg))
              | (go_at_call 21; go_must (refine (HM9.out.la.waiting HZW HLL).mono ?_); rintro e w10 ⟨a10, c10, rfl, hr10, hb10⟩; go_must (have HM10 := keepG (HM9.out.below hb10); have HX10 := keepG (RoRt.below HX9.out hb10); have HR10 := keepG hr10; clear hb10 hr10))
              | (go_at_call 12; go_must (refine (wlines HR10.out.sees (RoRt.sees HX10.out)).mono ?_); rintro e w11 ⟨rfl, hb11⟩; go_must (have HM11 := keepG (HM10.out.below hb11); clear hb11)))
            clear HM9 HX9 HM10 HX10 HR10 HX3 HMz HOR
            go_loopw [13] (fun i wy => ∃ y : Nat, y ≤ L.length ∧ i = .int .i64 y ∧ ∃ F c, Hid (L2 X wy a b F G0 c o ∧ c.ln = L.drop y ∧ c.st.length = es.length)) (fun i _ => L.length - (intOf i).toNat)
            case atStart => exact ⟨0, by omega, rfl, F, o.line L, HM11.out, rfl, HOS.out⟩
            case round =>
              clear HM11
              obtain ⟨y, hy, rfl, F2, c, HC⟩ := hrel
              rename World => wy
              by_cases hyt : y < L.length
              · have hytI : (y : Int) < L.length := by omega
                obtain ⟨p, c', e1, e2, -, e4⟩ := step_cons (HC.out.2.1.trans (drop_cons hyt))
                have HST := keepG e1
                have HLN := keepG e2
                have HSL : Hid (c'.st.length = es.length) := e4.trans HC.out.2.2
                have HZC : Hid (c.ln.length * 56 ≤ 140737488355328) := by show _ ≤ _; rw [HC.out.2.1, List.length_drop]; omega
                clear e1 e2 e4
                go_wp2_with (go_at_call 13; go_must (refine (HC.out.1.la.step HZC HST).mono ?_); rintro e w12 ⟨a12, c12, rfl, F12, hL12, hn12, -, -⟩; go_must (have HM12 := keepG (HC.out.1.goA hL12 hn12); clear hL12 hn12))
                go_roundw
                case rel => exact ⟨y + 1, by omega, by go_num, F12, c', HM12.out, HLN.out, HSL.out⟩
                case measure => simp [intOf]; omega
              · have hytI : ¬ (y : Int) < L.length := by omega
                have HMy := keepG HC.out.1
                have HSL := keepG HC.out.2.2
                clear HC
                go_wp2
                go_loopw [14] (fun i wm => ∃ m : Nat, m ≤ es.length ∧ i = .int .i64 m ∧ Hid (L2 X wm a b F2 G0 c o)) (fun i _ => es.length - (intOf i).toNat)
                case atStart => exact ⟨0, by omega, rfl, HMy.out⟩
                case round =>
                  clear HMy
                  obtain ⟨m, hm5, rfl, HMm⟩ := hrel
                  rename World => wm
                  obtain ⟨-, -, k2⟩ := HBC2.out wm HMm.out.la.be
                  by_cases hmt : m < es.length
                  · have hmtI : (m : Int) < es.length := by omega
                    have hha : c.hasM m = true := On.hasM_of (by rw [HSL.out]; exact hmt)
                    have hhb : o.hasM m = true := On.hasM_of (by rw [HOS.out]; exact hmt)
                    obtain ⟨P, HP⟩ : ∃ P, Hid ((c.sr m).1 = P) := ⟨_, rfl⟩
                    have HQA : Hid ((if c.hasM m = true then ((0 : Int), (c.sr m).1) else (2, [])) = (0, P)) := by show _ = _; rw [if_pos hha, HP.out]
                    have HQB : Hid ((if o.hasM m = true then ((0 : Int), (o.sr m).1) else (2, [])) = (0, [])) := by show _ = _; rw [if_pos hhb, HSR.out]
                    have hPl : P.length ≤ 16 := by
                      have h5 := HMm.out.la.ok
                      have h6 := (h5.inv m (by rw [← h5.len, HSL.out]; exact hmt))
                      have h7 := h6.1.len
                      rw [← HP.out]
                      show (c.st.getD (m : Int).toNat Sr.nil).1.length ≤ 16
                      have e : (m : Int).toNat = m := rfl
                      rw [e]
                      omega
                    clear hha hhb HP
                    go_wp2_with (first
                      | (have hq := HRa; clear hq; go_at_call 18; go_must (refine (HMa.out.la.pairs m HQA).mono ?_); rintro e wb ⟨ab, cb, rfl, hrb, hbb⟩; go_must (have HMb := keepG (HMa.out.below hbb); have HRa2 := keepG (HRa.out.below hbb); have HRb := keepG hrb; clear hbb hrb))
                      | (go_at_call 18; go_must (refine (HMm.out.la.pairs m HQA).mono ?_); rintro e wa ⟨aa, ca, rfl, hra, hba⟩; go_must (have HMa := keepG (HMm.out.below hba); have HRa := keepG hra; clear hba hra)))
                    have HAP : Hid (Apt (ftV (.slice aa P.length ca)) F2 ∧ Apt (ftV (.slice aa P.length ca)) G0 ∧ Apt (ftV (.slice aa P.length ca)) (ftV (.slice ab P.length cb)) ∧ Since X (ftV (.slice aa P.length ca))) := by
                      refine ⟨fun k e1 e2 => ?_, fun k e1 e2 => ?_, fun k e1 e2 => ?_, fun k e1 => ?_⟩
                      · have := (HRa.out.lt k e1).1; have := HMm.out.la.lies k e2; omega
                      · have := (HRa.out.lt k e1).1; have := HMm.out.lb.lies k e2; omega
                      · have := (HRa.out.lt k e1).2; have := (HRb.out.lt k e2).1; omega
                      · have := (HRa.out.lt k e1).1; have := HMm.out.la.be.size; omega
                    clear HRa HMa
                    go_loopw [19] (fun i wt => ∃ (t : Nat) (Y : List Pp), t ≤ P.length ∧ i = .int .i64 t ∧ Hid (Y.length = P.length ∧ RoPp wt wm.heap.size (.slice aa P.length ca) Y ∧ RoPp wt wa.heap.size (.slice ab P.length cb) P ∧ L2 X wt a b F2 G0 c o)) (fun i _ => P.length - (intOf i).toNat)
                    case atStart => exact ⟨0, P, by omega, rfl, rfl, HRa2.out, HRb.out, HMb.out⟩
                    case round =>
                      clear HRa2 HRb HMb
                      obtain ⟨t, Y, ht, rfl, HY⟩ := hrel
                      rename World => wt
                      by_cases htt : t < P.length
                      · have httI : (t : Int) < P.length := by omega
                        have hYt : t < Y.length := by have := HY.out.1; omega
                        have HOR : Hid (wt.ownsRow wm.heap.size 80 2 (.slice aa P.length ca) P.length (flatG ppC Y)) := by have h5 := HY.out.2.1; unfold RoPp at h5; rw [HY.out.1] at h5; exact h5
                        obtain ⟨g, cap, ev, hg1, hg2, hcap, hcm, hat⟩ := own_atG ppC_len Pp.nil HY.out.2.1 (by omega)
                        rw [HY.out.1] at ev
                        simp only [Value.slice.injEq, true_and] at ev
                        obtain ⟨rfl, rfl⟩ := ev
                        have g0 := hat t hYt 0 (by omega)
                        have g1 := hat t hYt 1 (by omega)
                        simp only [List.getElem?_cons_zero, List.getElem?_cons_succ, Nat.add_zero] at g0 g1
                        obtain ⟨g0, f0⟩ := g0
                        obtain ⟨g1, f1⟩ := g1
                        obtain ⟨qz, HQZ⟩ : ∃ qz, Hid (Y.getD t Pp.nil = qz) := ⟨_, rfl⟩
                        rw [HQZ.out] at g0 g1
                        have hpu := own_putG ppC_len HY.out.1 HOR.out hYt ⟨9999, 0⟩
                        have hcs := Chg.sets wt g (t * 2) (ppC ⟨9999, 0⟩)
                        have HYN : Hid ((Y.set t ⟨9999, 0⟩).length = P.length ∧ RoPp (wt.setCells g (t * 2) (ppC ⟨9999, 0⟩)) wm.heap.size (.slice (some ⟨g, 0, none⟩) P.length ca) (Y.set t ⟨9999, 0⟩) ∧ RoPp (wt.setCells g (t * 2) (ppC ⟨9999, 0⟩)) wa.heap.size (.slice ab P.length cb) P ∧ L2 X (wt.setCells g (t * 2) (ppC ⟨9999, 0⟩)) a b F2 G0 c o) := by
                          have hl : (Y.set t ⟨9999, 0⟩).length = P.length := by rw [List.length_set]; exact HY.out.1
                          refine ⟨hl, ?_, own_chg HY.out.2.2.1 hcs (fun k hk e => ?_), ⟨HY.out.2.2.2.la.keeps hcs (fun k e1 e2 => ?_) (fun k e1 => ?_), HY.out.2.2.2.lb.keeps hcs (fun k e1 e2 => ?_) (fun k e1 => ?_), HY.out.2.2.2.fg⟩⟩
                          · unfold RoPp; rw [hl]; exact hpu
                          · subst e; exact HAP.out.2.2.1 k rfl hk
                          · subst e1; exact HAP.out.1 k rfl e2
                          · subst e1; exact HAP.out.2.2.2 k rfl
                          · subst e1; exact HAP.out.2.1 k rfl e2
                          · subst e1; exact HAP.out.2.2.2 k rfl
                        clear hat hpu hcs HY HOR
                        go_wp2
                        go_roundw
                        case rel => exact ⟨t + 1, Y.set t ⟨9999, 0⟩, by omega, by go_num, HYN.out⟩
                        case measure => simp [intOf]; omega
                      · have httI : ¬ (t : Int) < P.length := by omega
                        have HRt := keepG HY.out.2.2.1
                        have HMt := keepG HY.out.2.2.2
                        clear HY
                        go_wp2_with (first
                          | (have hq := HMr; clear hq; go_at_call 18; go_must (refine (HMr.out.lb.pairs m HQB).mono ?_); rintro e wn ⟨an, cn, rfl, -, hbn⟩; go_must (have HMn := keepG (HMr.out.below hbn); have HQn := keepG (RoPp.below HRt2.out hbn); have HRn := keepG (RoPp.below HRr.out hbn); clear hbn))
                          | (go_at_call 18; go_must (refine (HMt.out.la.pairs m HQA).mono ?_); rintro e wq ⟨ar, cr, rfl, hrr, hbr⟩; go_must (have HMr := keepG (HMt.out.below hbr); have HRt2 := keepG (RoPp.below HRt.out hbr); have HRr := keepG hrr; clear hbr hrr))
                          | (go_at_call 19; go_must (refine (wpairs22 (own_seesG ppC_len Pp.nil HQn.out) (own_seesG ppC_len Pp.nil HRn.out)).mono ?_); rintro e wo ⟨rfl, hbo⟩; go_must (have HMo := keepG (HMn.out.below hbo); clear hbo)))
                        go_roundw
                        case rel => exact ⟨m + 1, by omega, by go_num, HMo.out⟩
                        case measure => simp [intOf]; omega
                  · have hmtI : ¬ (m : Int) < es.length := by omega
                    go_wp2
                    go_ret
                    exact ⟨rfl, HBX.out.trans (HMm.out.la.be.mono HBX.out.size)⟩
/-- OwnerFresh. -/
theorem ownerFresh_walk (s n : Int) (mv : Value) (es : List (Int × Int)) (qv : Value) (qs : List Rt) (w : World) (hm : SeesG dfC 2 (0, 0) w mv es) (_ : es.length * 16 ≤ 140737488351232) (hs : Rqs w qv qs) (hlen : qs.length * 56 ≤ 140737488351232 ∧ ∀ x ∈ qs, True) :
    Calls Try.prog 5 #[shV s n mv, qv] w fun e w' => e = .returned (.bool true) ∧ Below w.heap.size w w' := ownerFresh_ok s n mv es qv qs w hm hs.sees hs.wf hlen.1
end Go.Proofs.Ytpbfgebecgikjaa
