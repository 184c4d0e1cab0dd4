/-
  Texts joined: O22LE, W22Kit, W22Aw, W22Two, W22Mn.
-/
import Derived.Test.YtpbfgebecgikjaaO22LB
import Derived.Test.YtpbfgebecgikjaaO22LS
import Derived.Test.YtpbfgebecgikjaaO22LN
import Derived.Test.YtpbfgebecgikjaaGOpenW
import Derived.Test.YtpbfgebecgikjaaTk
namespace Go.Proofs.Ytpbfgebecgikjaa
open Go.RowKit
set_option linter.unusedVariables false
def Lwn (w : World) (B b : Nat) (F : Ft) (o : On) : Prop := ∃ rv lv vs Fs, Lwo w B b rv lv vs Fs o ∧ F = footO b rv lv vs.length Fs
theorem Lwn.lies {w : World} {B b : Nat} {F : Ft} {o : On} (h : Lwn w B b F o) : Lies w F := by
  obtain ⟨rv, lv, vs, Fs, h, rfl⟩ := h
  exact h.lies
theorem Lwn.keeps {w w' : World} {B b : Nat} {F G : Ft} {o : On} (h : Lwn w B b F o) (hc : Chg w w' G) (ha : Apt G F) : Lwn w' B b F o := by
  obtain ⟨rv, lv, vs, Fs, h, rfl⟩ := h
  exact ⟨rv, lv, vs, Fs, h.chg hc ha, rfl⟩
theorem lonew_ok (sh n : Int) {v : Value} {es : List (Int × Int)} {o : On} (w : World) (hs : SeesG dfC 2 (0, 0) w v es) (HN : Hid (newO sh n es = some o)) : Calls Try.prog 8 #[.int .i64 sh, .int .i64 n, v] w fun e w' => ∃ b F, e = .returned (.tuple #[.pointer (some ⟨b, 0, none⟩), .int .i64 0]) ∧ Lwn w' w.heap.size b F o ∧ Since w F ∧ Below w.heap.size w w' := by
  refine (lonew_lwo sh n w hs HN).mono ?_
  rintro e w' ⟨b, vm, ps, F, rfl, h, hS, hb⟩
  exact ⟨b, _, rfl, ⟨vm, _, ps, F, h, rfl⟩, hS, hb⟩
theorem Lwn.send {w : World} {B b : Nat} {F : Ft} {o o' : On} (h : Lwn w B b F o) (hk : o.Ok) (hB : B ≤ w.heap.size) {u : Value} {qs : List Rt} (hz : Hid ((o.ln.length + qs.length) * 56 ≤ 140737488355328)) (hs : SeesG rtC 7 Rt.nil w u qs) (hwf : ∀ q ∈ qs, q.wf) (hap : qs ≠ [] → Apt F (ftV u)) {E : Int} (HQ : Hid (o.send qs = (E, o'))) : Calls Try.prog 10 #[.pointer (some ⟨b, 0, none⟩), u] w fun e w' => e = .returned (.int .i64 E) ∧ ∃ F', Lwn w' B b F' o' ∧ Nx w w' F F' := by
  obtain ⟨rv, lv, vs, Fs, h, rfl⟩ := h
  refine (lsend h hk.n1 hB hz hs hwf HQ).mono ?_
  rintro e w' ⟨rfl, lv', h', hn⟩
  exact ⟨rfl, _, ⟨rv, lv', vs, Fs, h', rfl⟩, hn⟩
theorem Lwn.step {w : World} {B b : Nat} {F : Ft} {o o' : On} (h : Lwn w B b F o) (hk : o.Ok) (hB : B ≤ w.heap.size) (hz : Hid (o.ln.length * 56 ≤ 140737488355328)) {p : Ry} {r : Bool} (HQ : Hid (o.step = (p, r, o'))) : Calls Try.prog 13 #[.pointer (some ⟨b, 0, none⟩)] w fun e w' => ∃ u, e = .returned (.tuple #[rpV p u, .bool r]) ∧ ∃ F', Lwn w' B b F' o' ∧ Nx w w' F F' ∧ RoPp w' w.heap.size u p.ps ∧ Apt F' (ftV u) := by
  obtain ⟨rv, lv, vs, Fs, h, rfl⟩ := h
  have hq := HQ.out
  unfold On.step at hq
  split at hq
  · rename_i hl
    injection hq with q1 q2
    injection q2 with q2 q3
    subst q1 q2 q3
    refine (lstep_none h hl).mono ?_
    rintro e w' ⟨rfl, h', hb⟩
    exact ⟨_, rfl, _, ⟨rv, lv, vs, Fs, h', rfl⟩, Nx.below hb, World.ownsRow_nil _ _ _ _, fun j e1 e2 => by cases e2⟩
  · rename_i q rr hl
    injection hq with q1 q2
    injection q2 with q2 q3
    subst q2
    refine (lstep_some h hk hB hl (show Hid (o.serve q rr = (p, o')) from Prod.ext q1 q3)).mono ?_
    rintro e w' ⟨u, rfl, lv', F', h', hn, hr, ha⟩
    exact ⟨u, rfl, _, ⟨rv, lv', vs, F', h', rfl⟩, hn, hr, ha⟩
theorem Lwn.waiting {w : World} {B b : Nat} {F : Ft} {o : On} (h : Lwn w B b F o) (hz : Hid (o.ln.length * 56 ≤ 140737488355328)) : Calls Try.prog 21 #[.pointer (some ⟨b, 0, none⟩)] w fun e w' => ∃ u, e = .returned u ∧ RoRt w' w.heap.size u o.ln ∧ Below w.heap.size w w' := by
  obtain ⟨rv, lv, vs, Fs, h, rfl⟩ := h
  exact lwaiting h hz
theorem Lwn.endd {w : World} {B b : Nat} {F : Ft} {o o' : On} (h : Lwn w B b F o) (hB : B ≤ w.heap.size) {E : Int} (HQ : Hid (o.end = (E, o'))) : Calls Try.prog 16 #[.pointer (some ⟨b, 0, none⟩)] w fun e w' => e = .returned (.int .i64 E) ∧ ∃ F', Lwn w' B b F' o' ∧ Nx w w' F F' := by
  obtain ⟨rv, lv, vs, Fs, h, rfl⟩ := h
  refine (lend h HQ).mono ?_
  rintro e w' ⟨rfl, h', hc⟩
  exact ⟨rfl, _, ⟨rv, lv, vs, Fs, h', rfl⟩, hc.mono (fun k e => .inl (.inl e)), fun k hk => .inl hk⟩
theorem Lwn.ended {w : World} {B b : Nat} {F : Ft} {o : On} (h : Lwn w B b F o) : Calls Try.prog 22 #[.pointer (some ⟨b, 0, none⟩)] w fun e w' => e = .returned (.bool o.over) ∧ w = w' := by
  obtain ⟨rv, lv, vs, Fs, h, rfl⟩ := h
  exact lended h
theorem Lwn.pairs {w : World} {B b : Nat} {F : Ft} {o : On} (h : Lwn w B b F o) (hk : o.Ok) (m : Int) {E : Int} {ps : List Pp} (HQ : Hid ((if o.hasM m = true then (0, (o.sr m).1) else (2, [])) = (E, ps))) : Calls Try.prog 18 #[.pointer (some ⟨b, 0, none⟩), .int .i64 m] w fun e w' => ∃ u, e = .returned (.tuple #[u, .int .i64 E]) ∧ RoPp w' w.heap.size u ps ∧ Below w.heap.size w w' := by
  obtain ⟨rv, lv, vs, Fs, h, rfl⟩ := h
  exact lpairs h hk m HQ
end Go.Proofs.Ytpbfgebecgikjaa
namespace Go.Proofs.Ytpbfgebecgikjaa
open Go.ChangeShapes Go.WideShapes Go.ChangeAt Go.RowKit
set_option linter.unusedVariables false
set_option linter.unusedSimpArgs false
set_option maxRecDepth 100000

theorem dfC_len (e : Int × Int) : (dfC e).length = 2 := rfl
theorem df_cells {H : Type} {enc : TypeId × Value → H} {W : World} {fuel : Nat} {cs : List Value} {x : DataW H × List MemPlace}
    (h : DataW.trod enc Try.prog W 0 (fun _ => true) true fuel 74 cs = some x) : ∃ e : Int × Int, cs = dfC e ∧ True ∧ ((x.1.weights Try.prog 74).all (· ≤ reachBytes) = true → True) := by
  obtain ⟨xs, n, rfl, hx, hl, hlen, hf⟩ := DataW.trod_struct Try.underlying74 h
  have l5 : cs.length = 2 := by rw [hl]; kernel_rfl
  have u2 : Try.prog.cellsOf 3 = 1 := by kernel_rfl
  have u3 : Try.prog.cellsOf 72 = 1 := by kernel_rfl
  match cs, l5, xs, hlen, hf with
  | [c0, c1], _, [x0, x1], _, hf =>
    have h0 : DataW.trod enc Try.prog W 0 (fun _ => true) true n 72 (([c0, c1].drop 0).take (Try.prog.cellsOf 72)) = some x0 := hf 0 _ rfl
    have h1 : DataW.trod enc Try.prog W 0 (fun _ => true) true n 3 (([c0, c1].drop 1).take (Try.prog.cellsOf 3)) = some x1 := hf 1 _ rfl
    rw [u3] at h0
    rw [u2] at h1
    obtain ⟨a, e0, y0, g0⟩ := DataW.trod_int Try.underlying72 h0
    obtain ⟨b, e1, y1, g1⟩ := DataW.trod_int Try.underlying3 h1
    simp at e0 e1
    subst e0 e1
    exact ⟨(a, b), rfl, trivial, fun _ => trivial⟩
theorem wf_u64k {k : Int} (h : (Lit.int .u64 k).wf = true) : 0 ≤ k ∧ k < 18446744073709551616 := by
  simp [Lit.wf, IntKind.min, IntKind.max, IntKind.signed, IntKind.bits] at h
  omega
theorem rt_cells {H : Type} {enc : TypeId × Value → H} {W : World} {fuel : Nat} {cs : List Value} {x : DataW H × List MemPlace}
    (h : DataW.trod enc Try.prog W 0 (fun _ => true) true fuel 45 cs = some x) : ∃ q : Rt, cs = rtC q ∧ q.wf ∧ ((x.1.weights Try.prog 45).all (· ≤ reachBytes) = true → True) := by
  obtain ⟨xs, n, rfl, hx, hl, hlen, hf⟩ := DataW.trod_struct Try.underlying45 h
  have l5 : cs.length = 7 := by rw [hl]; kernel_rfl
  have u2 : Try.prog.cellsOf 3 = 1 := by kernel_rfl
  have u3 : Try.prog.cellsOf 4 = 1 := by kernel_rfl
  have u4 : Try.prog.cellsOf 43 = 4 := by kernel_rfl
  have u5 : Try.prog.cellsOf 40 = 1 := by kernel_rfl
  have u6 : Try.prog.cellsOf 41 = 1 := by kernel_rfl
  match cs, l5, xs, hlen, hf with
  | [c0, c1, c2, c3, c4, c5, c6], _, [x0, x1, x2, x3], _, hf =>
    have h0 : DataW.trod enc Try.prog W 0 (fun _ => true) true n 3 (([c0, c1, c2, c3, c4, c5, c6].drop 0).take (Try.prog.cellsOf 3)) = some x0 := hf 0 _ rfl
    have h1 : DataW.trod enc Try.prog W 0 (fun _ => true) true n 3 (([c0, c1, c2, c3, c4, c5, c6].drop 1).take (Try.prog.cellsOf 3)) = some x1 := hf 1 _ rfl
    have h2 : DataW.trod enc Try.prog W 0 (fun _ => true) true n 4 (([c0, c1, c2, c3, c4, c5, c6].drop 2).take (Try.prog.cellsOf 4)) = some x2 := hf 2 _ rfl
    have h3 : DataW.trod enc Try.prog W 0 (fun _ => true) true n 43 (([c0, c1, c2, c3, c4, c5, c6].drop 3).take (Try.prog.cellsOf 43)) = some x3 := hf 3 _ rfl
    rw [u2] at h0 h1
    rw [u3] at h2
    rw [u4] at h3
    have h3 : DataW.trod enc Try.prog W 0 (fun _ => true) true n 43 [c3, c4, c5, c6] = some x3 := h3
    obtain ⟨y0, e0, z0, _⟩ := DataW.trod_int Try.underlying3 h0
    obtain ⟨y1, e1, z1, _⟩ := DataW.trod_int Try.underlying3 h1
    obtain ⟨y2, e2, _⟩ := DataW.trod_bool Try.underlying4 h2
    simp at e0 e1 e2
    subst e0 e1 e2
    obtain ⟨ys, m, hx', hy, hl2, hlen2, hf2⟩ := DataW.trod_struct Try.underlying43 h3
    match ys, hlen2, hf2 with
    | [i0, i1, i2, i3], _, hf2 =>
      have k0 : DataW.trod enc Try.prog W 0 (fun _ => true) true m 3 (([c3, c4, c5, c6].drop 0).take (Try.prog.cellsOf 3)) = some i0 := hf2 0 _ rfl
      have k1 : DataW.trod enc Try.prog W 0 (fun _ => true) true m 40 (([c3, c4, c5, c6].drop 1).take (Try.prog.cellsOf 40)) = some i1 := hf2 1 _ rfl
      have k2 : DataW.trod enc Try.prog W 0 (fun _ => true) true m 41 (([c3, c4, c5, c6].drop 2).take (Try.prog.cellsOf 41)) = some i2 := hf2 2 _ rfl
      have k3 : DataW.trod enc Try.prog W 0 (fun _ => true) true m 41 (([c3, c4, c5, c6].drop 3).take (Try.prog.cellsOf 41)) = some i3 := hf2 3 _ rfl
      rw [u2] at k0
      rw [u5] at k1
      rw [u6] at k2 k3
      obtain ⟨m0, d0, _, _⟩ := DataW.trod_int Try.underlying3 k0
      obtain ⟨m1, d1, _, _⟩ := DataW.trod_int Try.underlying40 k1
      obtain ⟨m2, d2, _, g2⟩ := DataW.trod_int Try.underlying41 k2
      obtain ⟨m3, d3, _, _⟩ := DataW.trod_int Try.underlying41 k3
      simp at d0 d1 d2 d3
      subst d0 d1 d2 d3
      exact ⟨⟨y0, y1, y2, m0, m1, m2, m3⟩, rfl, wf_u64k g2, fun _ => trivial⟩
/-- Requests that were handed in. -/
structure Rqs (w0 : World) (v : Value) (qs : List Rt) : Prop where
  sees : SeesG rtC 7 Rt.nil w0 v qs
  wf : ∀ q ∈ qs, q.wf
theorem opens_Rt {H : Type} {enc : TypeId × Value → H} {W : World} {base : Nat} {v : Value} {d : DataW H} {p : List MemPlace}
    (hok : Value.okWide Try.prog W .any base 34 v) (h : DataW.Trod enc Try.prog W 0 (fun _ => true) true 34 v d p) :
    ∃ xs, SeesG rtC 7 Rt.nil W v xs ∧ (∀ x ∈ xs, x.wf) ∧ ((d.weights Try.prog 34).all (· ≤ reachBytes) = true → xs.length * 56 ≤ 140737488351232 ∧ ∀ x ∈ xs, True) :=
  opensGW Rt.nil (R := Rt.wf) (Q := fun _ => True) Try.underlying34 (by kernel_rfl) (by decide) rtC_len (by kernel_rfl) rt_cells hok h
/-- A shape: a shard, how many, the maps. -/
abbrev shV (s n : Int) (mv : Value) : Value := .agg #[.int .i64 s, .int .i64 n, mv]
theorem open_Shape {H : Type} {enc : TypeId × Value → H} {W : World} {base : Nat} {v : Value} {d : DataW H} {p : List MemPlace}
    (hok : Value.okWide Try.prog W .any base 24 v) (h : DataW.Trod enc Try.prog W 0 (fun _ => true) true 24 v d p) :
    ∃ s n mv es, v = shV s n mv ∧ SeesG dfC 2 (0, 0) W mv es ∧ ((d.weights Try.prog 24).all (· ≤ reachBytes) = true → es.length * 16 ≤ 140737488351232) := by
  obtain ⟨cs, rfl, _⟩ := okWide_struct Try.underlying24 hok
  obtain ⟨fuel, hf⟩ := h
  obtain ⟨xs, n, hd, hx, hl, hlen, hf⟩ := DataW.trod_struct Try.underlying24 hf
  have l5 : cs.toList.length = 3 := hl.trans (by kernel_rfl)
  have u2 : Try.prog.cellsOf 3 = 1 := by kernel_rfl
  have u4 : Try.prog.cellsOf 22 = 1 := by kernel_rfl
  obtain ⟨cl⟩ := cs
  simp only [Value.cells] at hf l5
  match cl, l5, xs, hlen, hf with
  | [c0, c1, c2], _, [x0, x1, x2], _, hf =>
    have h0 : DataW.trod enc Try.prog W 0 (fun _ => true) true n 3 (([c0, c1, c2].drop 0).take (Try.prog.cellsOf 3)) = some x0 := hf 0 _ rfl
    have h1 : DataW.trod enc Try.prog W 0 (fun _ => true) true n 3 (([c0, c1, c2].drop 1).take (Try.prog.cellsOf 3)) = some x1 := hf 1 _ rfl
    have h2 : DataW.trod enc Try.prog W 0 (fun _ => true) true n 22 (([c0, c1, c2].drop 2).take (Try.prog.cellsOf 22)) = some x2 := hf 2 _ rfl
    rw [u2] at h0 h1
    rw [u4] at h2
    have h2 : DataW.trod enc Try.prog W 0 (fun _ => true) true n 22 [c2] = some x2 := h2
    obtain ⟨a, e0, y0, g0⟩ := DataW.trod_int Try.underlying3 h0
    obtain ⟨b, e1, y1, g1⟩ := DataW.trod_int Try.underlying3 h1
    simp at e0 e1
    subst e0 e1
    obtain ⟨ua, ul, uc, rfl⟩ := slice_of_trod Try.underlying22 h2
    obtain ⟨es, s1, _, s3⟩ := opensGS (f := dfC) (z := 2) (0, 0) (R := fun _ => True) (Q := fun _ => True) (bytes := 16) (d := x2.1) (p := x2.2) Try.underlying22 (by kernel_rfl) (by decide) dfC_len (by kernel_rfl) df_cells ⟨_, _, _, rfl⟩ ⟨n, h2⟩
    refine ⟨a, b, _, es, rfl, s1, fun hall => ?_⟩
    have hd2 : d = .agg (List.map (fun x => x.1) [x0, x1, x2]) := by simpa using congrArg Prod.fst hx
    rw [hd2, DataW.weights, Try.underlying24] at hall
    simp only [DataW.weightsEach, List.map_cons, List.map_nil, List.all_append, Bool.and_eq_true] at hall
    exact (s3 hall.2.2.1).1
end Go.Proofs.Ytpbfgebecgikjaa
namespace Go.Proofs.Ytpbfgebecgikjaa
open Go.RowKit
set_option linter.unusedVariables false
set_option linter.unusedSimpArgs false
set_option maxRecDepth 100000
/-- An owner that was made since a world, and its blocks. -/
structure Lz (w0 w : World) (b : Nat) (F : Ft) (o : On) : Prop where
  ex : ∃ B, B ≤ w.heap.size ∧ Lwn w B b F o
  since : Since w0 F
  ok : o.Ok
  be : Below w0.heap.size w0 w
section
variable {w0 w w' : World} {b : Nat} {F F' G : Ft} {o o' : On}
theorem Lz.lies (h : Lz w0 w b F o) : Lies w F := by
  obtain ⟨B, _, h1⟩ := h.ex
  exact h1.lies
theorem Lz.keeps (h : Lz w0 w b F o) (hc : Chg w w' G) (ha : Apt G F) (hs : Since w0 G) : Lz w0 w' b F o := by
  obtain ⟨B, h0, h1⟩ := h.ex
  exact ⟨⟨B, Nat.le_trans h0 hc.size, h1.keeps hc ha⟩, h.since, h.ok, h.be.trans (hc.below (fun k e => hs k e) h.be.size)⟩
theorem Lz.below (h : Lz w0 w b F o) (hb : Below w.heap.size w w') : Lz w0 w' b F o := h.keeps (Chg.of_below (S := fun _ => False) hb) (fun _ e => e.elim) (fun _ e => e.elim)
theorem Lz.apt (h : Lz w0 w b F o) {v : Value} {α : Type} {ws : List α} (hl : ws ≠ [] → ∀ k, ftV v k → k < w0.heap.size) : ws ≠ [] → Apt F (ftV v) := fun hne k hk e => by
  have := hl hne k e
  have := h.since k hk
  omega
/-- What lies where nothing of the owner lies. -/
theorem Lz.aptN (h : Lz w0 w b F o) {v : Value} {α : Type} {ws : List α} (hl : ∀ k, ftV v k → w.heap.size ≤ k) : ws ≠ [] → Apt F (ftV v) := fun _ k hk e => by
  have := hl k e
  have := h.lies k hk
  omega
theorem Lz.go (h : Lz w0 w b F o) (hx : ∃ B, B ≤ w.heap.size ∧ Lwn w' B b F' o') (hk : o'.Ok) (hn : Nx w w' F F') : Lz w0 w' b F' o' := by
  obtain ⟨B, h0, h1⟩ := hx
  exact ⟨⟨B, Nat.le_trans h0 hn.chg.size, h1⟩, h.since.next h.be.size hn, hk, h.since.be h.be hn⟩
theorem Lz.send (h : Lz w0 w b F o) {u : Value} {qs : List Rt} (hz : Hid ((o.ln.length + qs.length) * 56 ≤ 140737488355328)) (hs : SeesG rtC 7 Rt.nil w u qs) (hwf : ∀ q ∈ qs, q.wf) (hap : qs ≠ [] → Apt F (ftV u)) {E : Int} (HQ : Hid (o.send qs = (E, o'))) : Calls Try.prog 10 #[.pointer (some ⟨b, 0, none⟩), u] w fun e w' => e = .returned (.int .i64 E) ∧ ∃ F', Lz w0 w' b F' o' ∧ Nx w w' F F' := by
  obtain ⟨B, h0, h1⟩ := h.ex
  refine (h1.send h.ok h0 hz hs hwf hap HQ).mono ?_
  rintro e w' ⟨rfl, F', g1, g2⟩
  exact ⟨rfl, F', h.go ⟨B, h0, g1⟩ (h.ok.send HQ.out) g2, g2⟩
theorem Lz.step (h : Lz w0 w b F o) (hz : Hid (o.ln.length * 56 ≤ 140737488355328)) {p : Ry} {r : Bool} (HQ : Hid (o.step = (p, r, o'))) : Calls Try.prog 13 #[.pointer (some ⟨b, 0, none⟩)] w fun e w' => ∃ a c, e = .returned (.tuple #[rpV p (.slice a p.ps.length c), .bool r]) ∧ ∃ F', Lz w0 w' b F' o' ∧ Nx w w' F F' ∧ RoPp w' w.heap.size (.slice a p.ps.length c) p.ps ∧ Apt F' (ftV (.slice a p.ps.length c)) := by
  obtain ⟨B, h0, h1⟩ := h.ex
  refine (h1.step h.ok h0 hz HQ).mono ?_
  rintro e w' ⟨u, rfl, F', g1, g2, g3, g4⟩
  obtain ⟨a, c, rfl⟩ := own_shape g3
  exact ⟨a, c, rfl, F', h.go ⟨B, h0, g1⟩ (h.ok.step HQ.out) g2, g2, g3, g4⟩
theorem Lz.waiting (h : Lz w0 w b F o) (hz : Hid (o.ln.length * 56 ≤ 140737488355328)) {l : List Rt} (hl : Hid (o.ln = l)) : Calls Try.prog 21 #[.pointer (some ⟨b, 0, none⟩)] w fun e w' => ∃ a c, e = .returned (.slice a l.length c) ∧ RoRt w' w.heap.size (.slice a l.length c) l ∧ Below w.heap.size w w' := by
  obtain ⟨B, h0, h1⟩ := h.ex
  refine (h1.waiting hz).mono ?_
  rintro e w' ⟨u, rfl, g1, g2⟩
  rw [hl.out] at g1
  obtain ⟨a, c, rfl⟩ := own_shape g1
  exact ⟨a, c, rfl, g1, g2⟩
theorem Lz.endd (h : Lz w0 w b F o) {E : Int} (HQ : Hid (o.end = (E, o'))) : Calls Try.prog 16 #[.pointer (some ⟨b, 0, none⟩)] w fun e w' => e = .returned (.int .i64 E) ∧ ∃ F', Lz w0 w' b F' o' ∧ Nx w w' F F' := by
  obtain ⟨B, h0, h1⟩ := h.ex
  refine (h1.endd h0 HQ).mono ?_
  rintro e w' ⟨rfl, F', g1, g2⟩
  exact ⟨rfl, F', h.go ⟨B, h0, g1⟩ (h.ok.end HQ.out) g2, g2⟩
theorem Lz.ended (h : Lz w0 w b F o) : Calls Try.prog 22 #[.pointer (some ⟨b, 0, none⟩)] w fun e w' => e = .returned (.bool o.over) ∧ w = w' := by
  obtain ⟨B, h0, h1⟩ := h.ex
  exact h1.ended
theorem Lz.pairs (h : Lz w0 w b F o) (m : Int) {E : Int} {ps : List Pp} (HQ : Hid ((if o.hasM m = true then (0, (o.sr m).1) else (2, [])) = (E, ps))) : Calls Try.prog 18 #[.pointer (some ⟨b, 0, none⟩), .int .i64 m] w fun e w' => ∃ a c, e = .returned (.tuple #[.slice a ps.length c, .int .i64 E]) ∧ RoPp w' w.heap.size (.slice a ps.length c) ps ∧ Below w.heap.size w w' := by
  obtain ⟨B, h0, h1⟩ := h.ex
  refine (h1.pairs h.ok m HQ).mono ?_
  rintro e w' ⟨u, rfl, g1, g2⟩
  obtain ⟨a, c, rfl⟩ := own_shape g1
  exact ⟨a, c, rfl, g1, g2⟩
theorem lznew_ok (sh n : Int) {v : Value} {es : List (Int × Int)} {w1 : World} (hb : Below w0.heap.size w0 w1) (hs : SeesG dfC 2 (0, 0) w1 v es) (HN : Hid (newO sh n es = some o)) : Calls Try.prog 8 #[.int .i64 sh, .int .i64 n, v] w1 fun e w' => ∃ b F, e = .returned (.tuple #[.pointer (some ⟨b, 0, none⟩), .int .i64 0]) ∧ Lz w0 w' b F o ∧ Since w1 F ∧ Below w1.heap.size w1 w' := by
  refine (lonew_ok sh n w1 hs HN).mono ?_
  rintro e w' ⟨b, F, rfl, h1, h2, h3⟩
  obtain ⟨_, _, _, _, _, _, hok⟩ := newO_some HN.out
  exact ⟨b, F, rfl, ⟨⟨_, h3.size, h1⟩, fun k hk => Nat.le_trans hb.size (h2 k hk), hok, hb.trans (h3.mono hb.size)⟩, h2, h3⟩
end
theorem SeesG.oldG {α : Type} {f : α → List Value} {z : Nat} {d : α} {w0 : World} {v : Value} {xs : List α} (h : SeesG f z d w0 v xs) : xs ≠ [] → ∀ k, ftV v k → k < w0.heap.size := by
  intro hne k hk
  obtain ⟨a, c, rfl, _, _, _, hc⟩ := h
  obtain ⟨b, of, rfl, hlt, _⟩ := hc hne
  have : b = k := Option.some.inj hk
  omega
section
variable {w w' : World}
set_option maxHeartbeats 3200000 in
/-- Equal lines are alike. -/
theorem wlines {va vb : Value} {A : List Rt} (ha : SeesG rtC 7 Rt.nil w va A) (hb : SeesG rtC 7 Rt.nil w vb A) : Calls Try.prog 12 #[va, vb] w fun e w' => e = .returned (.bool true) ∧ Below w.heap.size w w' := by
  have HA := keepG (fun (wr : World) (hc : Below w.heap.size w wr) => ha.below hc (Nat.le_refl _))
  have HB := keepG (fun (wr : World) (hc : Below w.heap.size w wr) => hb.below hc (Nat.le_refl _))
  obtain ⟨a1, c1, ev1, hl1, hm1⟩ := ha.shape
  obtain ⟨a2, c2, ev2, hl2, hm2⟩ := hb.shape
  subst ev1 ev2
  have hAl : A.length ≤ 9223372036854775807 := by omega
  clear ha hb
  go_enter Try.func12, Try.ntmps12
  go_wp2
  go_loopw [5] (fun i wr => ∃ j : Nat, j ≤ A.length ∧ i = .int .i64 j ∧ Hid (Below w.heap.size w wr)) (fun i _ => A.length - (intOf i).toNat)
  case atStart => exact ⟨0, by omega, rfl, Below.refl _ _⟩
  case round =>
    obtain ⟨j, hj, rfl, HBW⟩ := hrel
    rename World => wr
    by_cases hlt : j < A.length
    · have hltI : (j : Int) < A.length := by omega
      obtain ⟨p1, o1, ev1, hat1⟩ := rtAt (HA.out wr HBW.out) hlt
      obtain ⟨p2, o2, ev2, hat2⟩ := rtAt (HB.out wr HBW.out) hlt
      subst ev1 ev2
      obtain ⟨t, HT⟩ : ∃ t, Hid (A.getD j Rt.nil = t) := ⟨_, rfl⟩
      obtain ⟨d0, d1, d2, d3, d4, d5, d6⟩ := hat1 j hlt t HT.out
      obtain ⟨e0, e1, e2, e3, e4, e5, e6⟩ := hat2 j hlt t HT.out
      obtain ⟨qf, qt, qw, qm, qo, qk, qv⟩ := t
      simp only at d0 d1 d2 d3 d4 d5 d6 e0 e1 e2 e3 e4 e5 e6
      clear hat1 hat2
      have HBd := keepG (below_drG HBW.out)
      go_wp2
      refine wp_region_held_drew (S := fun w' => (w'.cell? ⟨p1, o1 + j * 7, none⟩ = some (.int .i64 qf) ∧ w'.cell? ⟨p1, o1 + j * 7 + 1, none⟩ = some (.int .i64 qt) ∧ w'.cell? ⟨p1, o1 + j * 7 + 2, none⟩ = some (.bool qw) ∧ w'.cell? ⟨p1, o1 + j * 7 + 3, none⟩ = some (.int .i64 qm) ∧ w'.cell? ⟨p1, o1 + j * 7 + 4, none⟩ = some (.int .i64 qo) ∧ w'.cell? ⟨p1, o1 + j * 7 + 5, none⟩ = some (.int .u64 qk) ∧ w'.cell? ⟨p1, o1 + j * 7 + 6, none⟩ = some (.int .u64 qv)) ∧ w'.cell? ⟨p2, o2 + j * 7, none⟩ = some (.int .i64 qf) ∧ w'.cell? ⟨p2, o2 + j * 7 + 1, none⟩ = some (.int .i64 qt) ∧ w'.cell? ⟨p2, o2 + j * 7 + 2, none⟩ = some (.bool qw) ∧ w'.cell? ⟨p2, o2 + j * 7 + 3, none⟩ = some (.int .i64 qm) ∧ w'.cell? ⟨p2, o2 + j * 7 + 4, none⟩ = some (.int .i64 qo) ∧ w'.cell? ⟨p2, o2 + j * 7 + 5, none⟩ = some (.int .u64 qk) ∧ w'.cell? ⟨p2, o2 + j * 7 + 6, none⟩ = some (.int .u64 qv)) (by kernel_rfl) ⟨⟨d0, d1, d2, d3, d4, d5, d6⟩, e0, e1, e2, e3, e4, e5, e6⟩ (fun hHeld => ?_)
      refine tkGo [0, 1, 2, 3, 4, 5, 6, 7, 8] ?_
      repeat (refine tkOne (v := ?_) rfl (by kernel_rfl) (by kernel_rfl) (by kernel_rfl) (fun _ _ _ h => h) (by assumption) (by rfl) ?_ ?_; rotate_left; (intro wy hSw; (try dsimp only at hSw); go_simp; (first | done | with_reducible rfl)); try simp only [Act.put, List.getElem_toArray, List.getElem_cons_zero, List.getElem_cons_succ, List.setIfInBounds_toArray, List.set_cons_zero, List.set_cons_succ])
      refine tkEnd ?_
      refine wpAnyH_done (by kernel_rfl) ?_ _
      clear hHeld
      go_wp2
      go_roundw
      case rel => exact ⟨j + 1, by omega, by go_num, HBd.out⟩
      case measure => simp [intOf]; omega
    · have hltI : ¬ (j : Int) < A.length := by omega
      go_wp2
      go_ret
      exact ⟨rfl, HBW.out⟩
theorem ppAt {a : Option Addr} {n cap : Nat} {l : List Pp} (h : SeesG ppC 2 Pp.nil w (.slice a n cap) l) {j : Nat} (hj : j < l.length) : ∃ p off, a = some ⟨p, off, none⟩ ∧ ∀ i, i < l.length → ∀ q, l.getD i Pp.nil = q → w.cell? ⟨p, off + i * 2, none⟩ = some (.int .u64 q.k) ∧ w.cell? ⟨p, off + i * 2 + 1, none⟩ = some (.int .u64 q.v) := by
  obtain ⟨a', cap', ev, _, _, _, hat⟩ := h
  simp only [Value.slice.injEq] at ev
  obtain ⟨rfl, _, rfl⟩ := ev
  obtain ⟨p, off, rfl, _, hc⟩ := hat (fun e => by rw [e] at hj; simp at hj)
  refine ⟨p, off, rfl, fun i hi q hq => ?_⟩
  have g0 := hc i hi 0 (by omega)
  have g1 := hc i hi 1 (by omega)
  rw [hq] at g0 g1
  exact ⟨g0, g1⟩
set_option maxHeartbeats 3200000 in
/-- Equal pairs are alike. -/
theorem wpairs22 {va vb : Value} {A : List Pp} (ha : SeesG ppC 2 Pp.nil w va A) (hb : SeesG ppC 2 Pp.nil w vb A) : Calls Try.prog 19 #[va, vb] w fun e w' => e = .returned (.bool true) ∧ Below w.heap.size w w' := by
  have HA := keepG (fun (wr : World) (hc : Below w.heap.size w wr) => ha.below hc (Nat.le_refl _))
  have HB := keepG (fun (wr : World) (hc : Below w.heap.size w wr) => hb.below hc (Nat.le_refl _))
  obtain ⟨a1, c1, ev1, hl1, hm1⟩ := ha.shape
  obtain ⟨a2, c2, ev2, hl2, hm2⟩ := hb.shape
  subst ev1 ev2
  have hAl : A.length ≤ 9223372036854775807 := by omega
  clear ha hb
  go_enter Try.func19, Try.ntmps19
  go_wp2
  go_loopw [5] (fun i wr => ∃ j : Nat, j ≤ A.length ∧ i = .int .i64 j ∧ Hid (Below w.heap.size w wr)) (fun i _ => A.length - (intOf i).toNat)
  case atStart => exact ⟨0, by omega, rfl, Below.refl _ _⟩
  case round =>
    obtain ⟨j, hj, rfl, HBW⟩ := hrel
    rename World => wr
    by_cases hlt : j < A.length
    · have hltI : (j : Int) < A.length := by omega
      obtain ⟨p1, o1, ev1, hat1⟩ := ppAt (HA.out wr HBW.out) hlt
      obtain ⟨p2, o2, ev2, hat2⟩ := ppAt (HB.out wr HBW.out) hlt
      subst ev1 ev2
      obtain ⟨t, HT⟩ : ∃ t, Hid (A.getD j Pp.nil = t) := ⟨_, rfl⟩
      obtain ⟨d0, d1⟩ := hat1 j hlt t HT.out
      obtain ⟨e0, e1⟩ := hat2 j hlt t HT.out
      obtain ⟨qk, qv⟩ := t
      simp only at d0 d1 e0 e1
      clear hat1 hat2
      have HBd := keepG (below_drG HBW.out)
      go_wp2
      refine wp_region_held_drew (S := fun w' => (w'.cell? ⟨p1, o1 + j * 2, none⟩ = some (.int .u64 qk) ∧ w'.cell? ⟨p1, o1 + j * 2 + 1, none⟩ = some (.int .u64 qv)) ∧ w'.cell? ⟨p2, o2 + j * 2, none⟩ = some (.int .u64 qk) ∧ w'.cell? ⟨p2, o2 + j * 2 + 1, none⟩ = some (.int .u64 qv)) (by kernel_rfl) ⟨⟨d0, d1⟩, e0, e1⟩ (fun hHeld => ?_)
      refine tkGo [0, 1, 2, 3, 4, 5, 6, 7, 8] ?_
      repeat (refine tkOne (v := ?_) rfl (by kernel_rfl) (by kernel_rfl) (by kernel_rfl) (fun _ _ _ h => h) (by assumption) (by rfl) ?_ ?_; rotate_left; (intro wy hSw; (try dsimp only at hSw); go_simp; (first | done | with_reducible rfl)); try simp only [Act.put, List.getElem_toArray, List.getElem_cons_zero, List.getElem_cons_succ, List.setIfInBounds_toArray, List.set_cons_zero, List.set_cons_succ])
      refine tkEnd ?_
      refine wpAnyH_done (by kernel_rfl) ?_ _
      clear hHeld
      go_wp2
      go_roundw
      case rel => exact ⟨j + 1, by omega, by go_num, HBd.out⟩
      case measure => simp [intOf]; omega
    · have hltI : ¬ (j : Int) < A.length := by omega
      go_wp2
      go_ret
      exact ⟨rfl, HBW.out⟩
set_option maxHeartbeats 6400000 in
/-- Equal replies are alike. -/
theorem walike {p : Ry} {va vb : Value} (ha : SeesG ppC 2 Pp.nil w va p.ps) (hb : SeesG ppC 2 Pp.nil w vb p.ps) : Calls Try.prog 15 #[rpV p va, rpV p vb] w fun e w' => e = .returned (.bool true) ∧ Below w.heap.size w w' := by
  obtain ⟨a1, c1, ev1, hl1, hm1⟩ := ha.shape
  obtain ⟨a2, c2, ev2, hl2, hm2⟩ := hb.shape
  subst ev1 ev2
  obtain ⟨q, x, ps⟩ := p
  obtain ⟨qf, qt, qw, qm, qo, qk, qv⟩ := q
  obtain ⟨xE, xf, xv, xo, xk, xu⟩ := x
  simp only at ha hb hl1 hl2
  obtain ⟨X, HX, hbX, HPX⟩ : ∃ X, Hid (w.alloc (.cells (rpC ⟨⟨qf, qt, qw, qm, qo, qk, qv⟩, ⟨xE, xf, xv, xo, xk, xu⟩, ps⟩ (.slice a1 ps.length c1)).toArray 50) = X) ∧ Below w.heap.size w X ∧ Hid (Hp X w.heap.size 50 (rpC ⟨⟨qf, qt, qw, qm, qo, qk, qv⟩, ⟨xE, xf, xv, xo, xk, xu⟩, ps⟩ (.slice a1 ps.length c1))) := ⟨_, rfl, below_allocG _ _, Hp.new w _ _⟩
  obtain ⟨Y, HY, hbY, HPY⟩ : ∃ Y, Hid (X.alloc (.cells (rpC ⟨⟨qf, qt, qw, qm, qo, qk, qv⟩, ⟨xE, xf, xv, xo, xk, xu⟩, ps⟩ (.slice a2 ps.length c2)).toArray 50) = Y) ∧ Below X.heap.size X Y ∧ Hid (Hp Y X.heap.size 50 (rpC ⟨⟨qf, qt, qw, qm, qo, qk, qv⟩, ⟨xE, xf, xv, xo, xk, xu⟩, ps⟩ (.slice a2 ps.length c2))) := ⟨_, rfl, below_allocG _ _, Hp.new X _ _⟩
  have HPX2 := keepG (HPX.out.below hbY HPX.out.lt)
  have hbw := hbX.trans (hbY.mono hbX.size)
  have HSA := keepG (ha.below hbw (Nat.le_refl _))
  have HSB := keepG (hb.below hbw (Nat.le_refl _))
  have HBW := keepG hbw
  clear ha hb hbX hbY hbw HPX HPY HPX2
  unfold rpV
  go_enter Try.func15, Try.ntmps15
  go_wp2_with (first
    | (go_at_call 19; rw [HX.out, HY.out]; go_must (refine (wpairs22 HSA.out HSB.out).mono ?_); rintro e w3 ⟨rfl, hb3⟩; go_must (have HB3 := keepG (HBW.out.trans (hb3.mono HBW.out.size)); clear hb3)))
  go_ret
  exact ⟨rfl, HB3.out⟩
end
theorem lit_rts (w : World) (qs : List Rt) (hl : qs.length ≤ 4194304) : SeesG rtC 7 Rt.nil (w.alloc (.cells (flatG rtC qs).toArray 45)) (.slice (some ⟨w.heap.size, 0, none⟩) qs.length qs.length) qs := SeesG.lit rtC_len Rt.nil w _ qs _ _ rfl rfl hl
theorem ft_litO {w : World} {k l c : Nat} : ftV (.slice (some ⟨w.heap.size, 0, none⟩) l c) k → w.heap.size ≤ k := fun e => by
  have : w.heap.size = k := Option.some.inj e
  omega
set_option maxHeartbeats 6400000 in
theorem awake22_any (w : World) : Calls Try.prog 7 #[] w fun e w' => e = .returned (.bool true) ∧ Below w.heap.size w w' := by
  obtain ⟨o1, HN⟩ : ∃ o1, Hid (newO 0 2 [(0, 1)] = some o1) := ⟨_, rfl⟩
  have ho1 : o1 = On.new 0 2 [(false, 1)] := by
    have := HN.out
    injection this with this
    rw [← this]
    rfl
  have HQ1 : Hid (o1.send [⟨5, 9, false, 0, 2, 0, 7⟩, ⟨6, 0, true, 0, 0, 0, 0⟩] = (0, ⟨0, 2, [(false, 1)], [([], [])], [⟨5, 9, false, 0, 2, 0, 7⟩, ⟨6, 0, true, 0, 0, 0, 0⟩], false⟩)) := by
    show _ = _
    rw [ho1]
    rfl
  have HQ2 : Hid ((⟨0, 2, [(false, 1)], [([], [])], [⟨5, 9, false, 0, 2, 0, 7⟩, ⟨6, 0, true, 0, 0, 0, 0⟩], false⟩ : On).step = (⟨⟨5, 9, false, 0, 2, 0, 7⟩, ⟨0, false, 0, false, 0, 0⟩, []⟩, true, ⟨0, 2, [(false, 1)], [([⟨0, 7⟩], [])], [⟨6, 0, true, 0, 0, 0, 0⟩], false⟩)) := by show _ = _; rfl
  have HQ3 : Hid ((⟨0, 2, [(false, 1)], [([⟨0, 7⟩], [])], [⟨6, 0, true, 0, 0, 0, 0⟩], false⟩ : On).step = (⟨⟨6, 0, true, 0, 0, 0, 0⟩, Rq.none, [⟨0, 7⟩]⟩, true, ⟨0, 2, [(false, 1)], [([⟨0, 7⟩], [])], [], false⟩)) := by show _ = _; rfl
  have HZ0 : Hid (o1.ln.length = 0) := by show _ = _; rw [ho1]; rfl
  clear ho1
  go_enter Try.func7, Try.ntmps7
  go_wp2_with (first
    | (go_at_call 8; go_must (refine (lznew_ok (w0 := w) 0 2 (es := [(0, 1)]) (below_allocG w _) (SeesG.lit dfC_len (0, 0) w 74 [(0, 1)] _ 1 rfl rfl (by simp)) HN).mono ?_); rintro e w1 ⟨b, F, rfl, hL, _, _⟩; go_must (have HL := keepG hL; obtain ⟨Z, HZ, hbZ, HSZ⟩ : ∃ Z, Hid (w1.alloc (.cells #[.int .i64 5, .int .i64 9, .bool false, .int .i64 0, .int .i64 2, .int .u64 0, .int .u64 7, .int .i64 6, .int .i64 0, .bool true, .int .i64 0, .int .i64 0, .int .u64 0, .int .u64 0] 45) = Z) ∧ Below w1.heap.size w1 Z ∧ Hid (SeesG rtC 7 Rt.nil Z (.slice (some ⟨w1.heap.size, 0, none⟩) 2 2) [⟨5, 9, false, 0, 2, 0, 7⟩, ⟨6, 0, true, 0, 0, 0, 0⟩]) := ⟨_, rfl, below_allocG _ _, lit_rts w1 [⟨5, 9, false, 0, 2, 0, 7⟩, ⟨6, 0, true, 0, 0, 0, 0⟩] (by simp)⟩; have HLZ := keepG (hL.below hbZ); have HAZ := keepG (hL.aptN (α := Rt) (ws := [⟨5, 9, false, 0, 2, 0, 7⟩, ⟨6, 0, true, 0, 0, 0, 0⟩]) (v := .slice (some ⟨w1.heap.size, 0, none⟩) 2 2) (fun k e => ft_litO e)); clear hL hbZ))
    | (go_at_call 10; rw [HZ.out]; go_must (refine (HLZ.out.send (by show _ ≤ _; rw [HZ0.out]; simp) HSZ.out (by intro q hq; simp at hq; rcases hq with e | e <;> subst e <;> exact ⟨by decide, by decide⟩) HAZ.out HQ1).mono ?_); rintro e w2 ⟨rfl, F2, hL2, _⟩; go_must (have HL2 := keepG hL2; clear hL2))
    | (have hq := HL3; clear hq; go_at_call 13; go_must (refine (HLY.out.step (by show _ ≤ _; simp) HQ3).mono ?_); rintro e w4 ⟨a4, c4, rfl, F4, hL4, hn4, hr4, _⟩; go_must (have HL4 := keepG hL4; unfold rpV; obtain ⟨p4, cc4, ev, -, hp4, hc4, hm4, hat4⟩ := own_atG ppC_len Pp.nil hr4 (by simp); simp only [Value.slice.injEq, true_and] at ev; obtain ⟨rfl, rfl⟩ := ev; have g1 : w4.cell? ⟨p4, 1, none⟩ = some (.int .u64 7) := (hat4 0 (by simp) 1 (by decide)).1; have HP4 := keepG (HPY.out.chg hn4.chg (fun e => by have := HL3.out.lies _ e; omega)); have hl4 := HP4.out.lt; obtain ⟨W5, HW5, hb5, HP5⟩ : ∃ W5, Hid (w4.alloc (.cells (rpC ⟨⟨6, 0, true, 0, 0, 0, 0⟩, Rq.none, [⟨0, 7⟩]⟩ (.slice (some ⟨p4, 0, none⟩) 1 c4)).toArray 50) = W5) ∧ Below w4.heap.size w4 W5 ∧ Hid (Hp W5 w4.heap.size 50 (rpC ⟨⟨6, 0, true, 0, 0, 0, 0⟩, Rq.none, [⟨0, 7⟩]⟩ (.slice (some ⟨p4, 0, none⟩) 1 c4))) := ⟨_, rfl, below_allocG _ _, Hp.new w4 _ _⟩; have HP6 := keepG (HP4.out.below hb5 hl4); have x0 := HP6.out.cell (j := 0) rfl; have x1 := HP6.out.cell (j := 1) rfl; have z2 := HP5.out.cell (j := 2) rfl; have z13 := HP5.out.cell (j := 13) rfl; have g2 := (hb5.cell (p := ⟨p4, 1, none⟩) hp4).trans g1; have HL5 := keepG (HL4.out.below hb5); clear hL4 hr4 hn4 hat4 hb5 g1))
    | (go_at_call 13; go_must (refine (HL2.out.step (by show _ ≤ _; simp) HQ2).mono ?_); rintro e w3 ⟨a3, c3, rfl, F3, hL3, _, _, _⟩; go_must (have HL3 := keepG hL3; unfold rpV; obtain ⟨Y, HY, HLY, HPY⟩ : ∃ Y, Hid (w3.alloc (.cells (rpC ⟨⟨5, 9, false, 0, 2, 0, 7⟩, ⟨0, false, 0, false, 0, 0⟩, []⟩ (.slice a3 0 c3)).toArray 50) = Y) ∧ Hid (Lz w Y b F3 ⟨0, 2, [(false, 1)], [([⟨0, 7⟩], [])], [⟨6, 0, true, 0, 0, 0, 0⟩], false⟩) ∧ Hid (Hp Y w3.heap.size 50 (rpC ⟨⟨5, 9, false, 0, 2, 0, 7⟩, ⟨0, false, 0, false, 0, 0⟩, []⟩ (.slice a3 0 c3))) := ⟨_, rfl, hL3.below (below_allocG _ _), Hp.new w3 _ _⟩; clear hL3))
    | (rw [HW5.out])
    | (rw [HY.out]))
  go_ret
  exact ⟨rfl, HL5.out.be⟩
end Go.Proofs.Ytpbfgebecgikjaa
namespace Go.Proofs.Ytpbfgebecgikjaa
open Go.RowKit
set_option linter.unusedVariables false
set_option linter.unusedSimpArgs false
set_option maxRecDepth 100000
theorem newO_line {sh n : Int} {es : List (Int × Int)} {o : On} (h : newO sh n es = some o) : o.line [] = o ∧ o.over = false ∧ o.ln = [] ∧ o.st.length = es.length := by
  obtain ⟨_, _, _, ds, h1, rfl, _⟩ := newO_some h
  refine ⟨rfl, rfl, rfl, ?_⟩
  show (List.replicate ds.length Sr.nil).length = _
  rw [List.length_replicate]
  exact (allDf_some h1).1
theorem send_one {o : On} (ho : o.over = false) (l : List Rt) (q : Rt) : (o.line l).send [q] = if o.takes q = true then (0, o.line (l ++ [q])) else (2, o.line l) := by
  have ht : (o.line l).takes q = o.takes q := takes_same rfl rfl rfl q
  have ho' : (o.line l).over = false := ho
  unfold On.send
  rw [if_neg (by rw [ho']; decide)]
  simp only [List.all_cons, List.all_nil, Bool.and_true, ht]
  rfl
theorem send_all {o : On} (ho : o.over = false) (hl : o.ln = []) (qs : List Rt) : o.send qs = if qs.all o.takes = true then (0, o.line qs) else (2, o) := by
  unfold On.send
  rw [if_neg (by rw [ho]; decide), hl, List.nil_append]
theorem step_cons {o : On} {q : Rt} {r : List Rt} (h : o.ln = q :: r) : ∃ p o', o.step = (p, true, o') ∧ o'.ln = r ∧ o'.over = o.over ∧ o'.st.length = o.st.length := by
  refine ⟨_, _, by unfold On.step; rw [h], ?_, ?_, ?_⟩
  · unfold On.serve; split <;> rfl
  · unfold On.serve; split <;> rfl
  · unfold On.serve; split
    · rfl
    · simp
/-- Two owners, apart. -/
structure L2 (w0 w : World) (a b : Nat) (F G : Ft) (o p : On) : Prop where
  la : Lz w0 w a F o
  lb : Lz w0 w b G p
  fg : Apt F G
section
variable {w0 w w' : World} {a b : Nat} {F F' G G' : Ft} {o o' p p' : On}
theorem L2.below (h : L2 w0 w a b F G o p) (hb : Below w.heap.size w w') : L2 w0 w' a b F G o p := ⟨h.la.below hb, h.lb.below hb, h.fg⟩
theorem L2.goA (h : L2 w0 w a b F G o p) (hl : Lz w0 w' a F' o') (hn : Nx w w' F F') : L2 w0 w' a b F' G o' p := ⟨hl, h.lb.keeps hn.chg h.fg h.la.since, h.fg.next h.lb.lies hn⟩
theorem L2.goB (h : L2 w0 w a b F G o p) (hl : Lz w0 w' b G' p') (hn : Nx w w' G G') : L2 w0 w' a b F G' o p' := ⟨h.la.keeps hn.chg h.fg.symm h.lb.since, hl, (h.fg.symm.next h.la.lies hn).symm⟩
end
/-- The fourteen cells of a reply's box. -/
theorem rp_cells {w : World} {n : Nat} {p : Ry} {u : Value} (h : Hp w n 50 (rpC p u)) : (w.cell? ⟨n, 0, none⟩ = some (.int .i64 p.q.f) ∧ w.cell? ⟨n, 1, none⟩ = some (.int .i64 p.q.t) ∧ w.cell? ⟨n, 2, none⟩ = some (.bool p.q.wk) ∧ w.cell? ⟨n, 3, none⟩ = some (.int .i64 p.q.m) ∧ w.cell? ⟨n, 4, none⟩ = some (.int .i64 p.q.op) ∧ w.cell? ⟨n, 5, none⟩ = some (.int .u64 p.q.k) ∧ w.cell? ⟨n, 6, none⟩ = some (.int .u64 p.q.v)) ∧ w.cell? ⟨n, 7, none⟩ = some (.int .i64 p.x.E) ∧ w.cell? ⟨n, 8, none⟩ = some (.bool p.x.f) ∧ w.cell? ⟨n, 9, none⟩ = some (.int .u64 p.x.v) ∧ w.cell? ⟨n, 10, none⟩ = some (.bool p.x.o) ∧ w.cell? ⟨n, 11, none⟩ = some (.int .u64 p.x.k) ∧ w.cell? ⟨n, 12, none⟩ = some (.int .u64 p.x.u) ∧ w.cell? ⟨n, 13, none⟩ = some u :=
  ⟨⟨h.cell (j := 0) rfl, h.cell (j := 1) rfl, h.cell (j := 2) rfl, h.cell (j := 3) rfl, h.cell (j := 4) rfl, h.cell (j := 5) rfl, h.cell (j := 6) rfl⟩, h.cell (j := 7) rfl, h.cell (j := 8) rfl, h.cell (j := 9) rfl, h.cell (j := 10) rfl, h.cell (j := 11) rfl, h.cell (j := 12) rfl, h.cell (j := 13) rfl⟩
theorem filter_take {T : Rt → Bool} {qs : List Rt} {j : Nat} (hj : j < qs.length) : (qs.take (j + 1)).filter T = if T (qs.getD j Rt.nil) = true then (qs.take j).filter T ++ [qs.getD j Rt.nil] else (qs.take j).filter T := by
  rw [take_atR qs j hj, List.filter_append]
  by_cases h : T (qs.getD j Rt.nil) = true
  · rw [if_pos h, List.filter_cons_of_pos h]; rfl
  · rw [if_neg h, List.filter_cons_of_neg h]; simp
theorem drop_cons {qs : List Rt} {j : Nat} (hj : j < qs.length) : qs.drop j = qs.getD j Rt.nil :: qs.drop (j + 1) := by
  rw [List.drop_eq_getElem_cons hj]
  simp [List.getD, hj]
end Go.Proofs.Ytpbfgebecgikjaa
namespace Go.Proofs.Ytpbfgebecgikjaa
open Go.RowKit
set_option linter.unusedVariables false
set_option linter.unusedSimpArgs false
set_option maxRecDepth 100000
set_option maxHeartbeats 25600000 in
theorem ownerMany_ok (s n : Int) (mv : Value) (es : List (Int × Int)) (qv : Value) (qs : List Rt) (w : World) (hm : SeesG dfC 2 (0, 0) w mv es) (hs : SeesG rtC 7 Rt.nil w qv qs) (hwf : ∀ q ∈ qs, q.wf) (hlen : qs.length * 56 ≤ 140737488351232) :
    Calls Try.prog 6 #[shV s n mv, qv] w fun e w' => e = .returned (.bool true) ∧ Below w.heap.size w w' := by
  have HMV := keepG (fun (wx : World) (hb : Below w.heap.size w wx) => hm.below hb (Nat.le_refl _))
  have HQV := keepG (fun (wx : World) (hb : Below w.heap.size w wx) => hs.below hb (Nat.le_refl _))
  have HWF := keepG hwf
  obtain ⟨ma, mc, ev, hml, hmm⟩ := hm.shape
  subst ev
  obtain ⟨qa, qc, ev, hql, hqm⟩ := hs.shape
  subst ev
  obtain ⟨i0, hi0, hz0, hzs, hzb⟩ := info_parts infoRt
  obtain ⟨X, HX, HBX, HPX⟩ : ∃ X, Hid (w.alloc (.cells #[.int .i64 s, .int .i64 n, .slice ma es.length mc] 24) = X) ∧ Hid (Below w.heap.size w X) ∧ Hid (Hp X w.heap.size 24 [.int .i64 s, .int .i64 n, .slice ma es.length mc]) := ⟨_, rfl, below_allocG _ _, Hp.new w _ _⟩
  have HBC : Hid (∀ wx, Below X.heap.size X wx → wx.cell? ⟨w.heap.size, 0, none⟩ = some (.int .i64 s) ∧ wx.cell? ⟨w.heap.size, 1, none⟩ = some (.int .i64 n) ∧ wx.cell? ⟨w.heap.size, 2, none⟩ = some (.slice ma es.length mc)) := by
    intro wx hb
    have h := HPX.out.below hb HPX.out.lt
    exact ⟨h.cell (j := 0) rfl, h.cell (j := 1) rfl, h.cell (j := 2) rfl⟩
  obtain ⟨nb, HNB⟩ : ∃ nb, Hid (w.heap.size = nb) := ⟨_, rfl⟩
  have HBC2 : Hid (∀ wx, Below X.heap.size X wx → wx.cell? ⟨nb, 0, none⟩ = some (.int .i64 s) ∧ wx.cell? ⟨nb, 1, none⟩ = some (.int .i64 n) ∧ wx.cell? ⟨nb, 2, none⟩ = some (.slice ma es.length mc)) := by rw [← HNB.out]; exact HBC.out
  clear hm hs hwf HBC
  go_enter Try.func6, Try.ntmps6
  cases hn : newO s n es with
  | none =>
    have HN := keepG hn
    clear hn
    go_wp2_with (first
      | (go_at_call 7; rw [HX.out, HNB.out]; go_must (refine (awake22_any X).mono ?_); rintro e w1 ⟨rfl, hb1⟩; go_must (have HB1 := keepG hb1; have HBw1 := keepG (HBX.out.trans (hb1.mono HBX.out.size)); obtain ⟨c0, c1, c2⟩ := HBC2.out w1 hb1; clear hb1))
      | (have hq := HB2; clear hq; go_at_call 8; go_must (refine (lonew_no s n w2 (HMV.out w2 HBw2.out) HN).mono ?_); rintro e w3 ⟨rfl, hb3⟩; go_must (have HBw3 := keepG (HBw2.out.trans (hb3.mono HBw2.out.size)); clear hb3))
      | (go_at_call 8; go_must (refine (lonew_no s n w1 (HMV.out w1 HBw1.out) HN).mono ?_); rintro e w2 ⟨rfl, hb2⟩; go_must (have HB2 := keepG (HB1.out.trans (hb2.mono HB1.out.size)); have HBw2 := keepG (HBw1.out.trans (hb2.mono HBw1.out.size)); obtain ⟨c20, c21, c22⟩ := HBC2.out w2 HB2.out; clear hb2)))
    go_ret
    exact ⟨rfl, HBw3.out⟩
  | some o =>
    have HN := keepG hn
    obtain ⟨hol, hov, hon, hst⟩ := newO_line hn
    have HOL := keepG hol
    have HOV := keepG hov
    have HON := keepG hon
    clear hn hol hov hon hst
    go_wp2_with (first
      | (go_at_call 7; rw [HX.out, HNB.out]; go_must (refine (awake22_any X).mono ?_); rintro e w1 ⟨rfl, hb1⟩; go_must (have HB1 := keepG hb1; have HBw1 := keepG (HBX.out.trans (hb1.mono HBX.out.size)); obtain ⟨c0, c1, c2⟩ := HBC2.out w1 hb1; clear hb1))
      | (have hq := HL2; clear hq; go_at_call 8; go_must (refine (lznew_ok s n HL2.out.be (HMV.out w2 HL2.out.be) HN).mono ?_); rintro e w3 ⟨b, G0, rfl, hL, hS, hb⟩; go_must (have HL3 : Hid (L2 w w3 a b F0 G0 o o) := ⟨HL2.out.below hb, hL, Apt.made HL2.out.lies hS⟩; clear hL hS hb))
      | (go_at_call 8; go_must (refine (lznew_ok s n HBw1.out (HMV.out w1 HBw1.out) HN).mono ?_); rintro e w2 ⟨a, F0, rfl, hL, _, hb2⟩; go_must (have HL2 := keepG hL; obtain ⟨c20, c21, c22⟩ := HBC2.out w2 (HB1.out.trans (hb2.mono HB1.out.size)); clear hL hb2)))
    clear HL2 HB1 HBw1
    obtain ⟨T, HT⟩ : ∃ T, Hid (o.takes = T) := ⟨_, rfl⟩
    go_loopw [9, 10] (fun f i wr => ∃ (j : Nat) (al : Bool), j ≤ qs.length ∧ f = .bool al ∧ i = .int .i64 j ∧ ∃ G, Hid (L2 w wr a b F0 G o (o.line ((qs.take j).filter T)) ∧ (qs.take j).all T = al)) (fun _ i _ => qs.length - (intOf i).toNat)
    case atStart => exact ⟨0, true, by omega, rfl, rfl, G0, by rw [show o.line ((qs.take 0).filter T) = o from HOL.out]; exact HL3.out, rfl⟩
    case round =>
      clear HL3
      obtain ⟨j, al, hj, rfl, rfl, G, HM⟩ := hrel
      rename World => wr
      have hfl : ((qs.take j).filter T).length ≤ j := by have := List.length_filter_le T (qs.take j); simp at this; omega
      by_cases hlt : j < qs.length
      · have hltI : (j : Int) < qs.length := by omega
        obtain ⟨p, off, ev, hat⟩ := rtAt (HQV.out wr HM.out.1.la.be) hlt
        subst ev
        obtain ⟨q, HQ⟩ : ∃ q, Hid (qs.getD j Rt.nil = q) := ⟨_, rfl⟩
        obtain ⟨d0, d1, d2, d3, d4, d5, d6⟩ := hat j hlt q HQ.out
        have hqw := HWF.out _ (getD_memR2 qs j hlt)
        have hft := filter_take (T := T) hlt
        have hat2 := all_takeR (p := T) hlt
        rw [HQ.out] at hqw hft hat2
        rw [HM.out.2] at hat2
        obtain ⟨L, HL⟩ : ∃ L, Hid ((qs.take j).filter T = L) := ⟨_, rfl⟩
        rw [HL.out] at hft hfl
        have HM1 := HM.out.1
        rw [HL.out] at HM1
        have HM2 := keepG HM1
        have hso := send_one HOV.out L q
        rw [HT.out] at hso
        have HSO := keepG hso
        have HFT := keepG hft
        have HAT := keepG hat2
        have HZS : Hid (((o.line L).ln.length + [q].length) * 56 ≤ 140737488355328) := by show (L.length + 1) * 56 ≤ _; omega
        obtain ⟨Z, HZ, hbZ, HSZ⟩ : ∃ Z, Hid (wr.alloc (.cells #[.int .i64 q.f, .int .i64 q.t, .bool q.wk, .int .i64 q.m, .int .i64 q.op, .int .u64 q.k, .int .u64 q.v] 45) = Z) ∧ Below wr.heap.size wr Z ∧ Hid (SeesG rtC 7 Rt.nil Z (.slice (some ⟨wr.heap.size, 0, none⟩) 1 1) [q]) := ⟨_, rfl, below_allocG _ _, lit_rts wr [q] (by simp)⟩
        have HMZ := keepG (HM2.out.below hbZ)
        have HAZ := keepG (HM2.out.lb.aptN (α := Rt) (ws := [q]) (v := .slice (some ⟨wr.heap.size, 0, none⟩) 1 1) (fun k e => ft_litO e))
        have HW1 : Hid (∀ x ∈ [q], x.wf) := by intro x hx; rw [List.mem_singleton.1 hx]; exact hqw
        clear hat hft hat2 HM1 hso hbZ HM
        cases ht : T q with
        | true =>
          have HS1 : Hid ((o.line L).send [q] = (0, o.line (L ++ [q]))) := by show _ = _; rw [HSO.out, if_pos ht]
          have HF1 : Hid ((qs.take (j + 1)).filter T = L ++ [q]) := by show _ = _; rw [HFT.out, if_pos ht]
          have HA1 : Hid ((qs.take (j + 1)).all T = al) := by show _ = _; rw [HAT.out, ht, Bool.and_true]
          clear ht HSO HFT HAT
          go_wp2_with (go_at_call 10; rw [HZ.out]; go_must (refine (HMZ.out.lb.send HZS HSZ.out HW1.out HAZ.out HS1).mono ?_); rintro e w5 ⟨rfl, G5, hL5, hn5⟩; go_must (have HM5 := keepG (HMZ.out.goB hL5 hn5); clear hL5 hn5))
          go_roundw
          case rel => exact ⟨j + 1, al, by omega, by first | rfl | go_num, by go_num, G5, by rw [HF1.out]; exact HM5.out, HA1.out⟩
          case measure => simp [intOf]; omega
        | false =>
          have HS1 : Hid ((o.line L).send [q] = (2, o.line L)) := by show _ = _; rw [HSO.out, if_neg (by rw [ht]; decide)]
          have HF1 : Hid ((qs.take (j + 1)).filter T = L) := by show _ = _; rw [HFT.out, if_neg (by rw [ht]; decide)]
          have HA1 : Hid ((qs.take (j + 1)).all T = false) := by show _ = _; rw [HAT.out, ht, Bool.and_false]
          clear ht HSO HFT HAT
          go_wp2_with (go_at_call 10; rw [HZ.out]; go_must (refine (HMZ.out.lb.send HZS HSZ.out HW1.out HAZ.out HS1).mono ?_); rintro e w5 ⟨rfl, G5, hL5, hn5⟩; go_must (have HM5 := keepG (HMZ.out.goB hL5 hn5); clear hL5 hn5))
          go_roundw
          case rel => exact ⟨j + 1, false, by omega, by first | rfl | go_num, by go_num, G5, by rw [HF1.out]; exact HM5.out, HA1.out⟩
          case measure => simp [intOf]; omega
      · have hltI : ¬ (j : Int) < qs.length := by omega
        have htk : qs.take j = qs := List.take_of_length_le (by omega)
        have HM1 := HM.out
        rw [htk] at HM1
        have HM2 := keepG HM1.1
        have HAL := keepG HM1.2
        have hsa := send_all HOV.out HON.out qs
        rw [HT.out, HAL.out] at hsa
        have HSA := keepG hsa
        have HZS : Hid ((o.ln.length + qs.length) * 56 ≤ 140737488355328) := by show _ ≤ _; rw [HON.out]; simp; omega
        obtain ⟨Z, HZ, HBZ⟩ : ∃ Z, Hid (wr.alloc (.cells #[] 45) = Z) ∧ Hid (Below wr.heap.size wr Z) := ⟨_, rfl, below_allocG _ _⟩
        obtain ⟨v3, w3, hr3, ho3, hg3, _⟩ := run_append_seesG (f := rtC) (d := Rt.nil) (P := Try.prog) Z wr.heap.size 34 34 45 i0 _ 7 56 Try.underlying34 hi0 hz0 hzs hzb rfl (by decide) (.slice (some ⟨wr.heap.size, 0, none⟩) 0 0) 0 [] (by rw [← HZ.out]; exact own_of (cs := []) (Nat.le_refl _) (heap_alloc_new wr _) (Nat.le_refl _) (by simp [maxLen]) (by simp) (by simp)) rtC_len (HQV.out Z (HM2.out.la.be.trans (HBZ.out.mono HM2.out.la.be.size))) (rt_flat qs) (by unfold maxLen; omega) (by omega) HBZ.out.size
        rw [Nat.zero_add, List.nil_append] at ho3
        have hb3 : Below wr.heap.size wr w3 := HBZ.out.trans ((Chg.of_grown' hg3 (S := fun k => k = wr.heap.size) (fun k e => (Option.some.inj e).symm)).below (fun k e => by omega) HBZ.out.size)
        have HS3 := keepG (own_seesG rtC_len Rt.nil ho3)
        have HM3 := keepG (HM2.out.below hb3)
        have HAP3 : Hid (qs ≠ [] → Apt F0 (ftV v3)) := fun _ => Apt.made HM2.out.la.lies (own_since ho3 (Nat.le_refl _))
        have HR3 := keepG hr3
        obtain ⟨va3, vc3, ev⟩ := own_shape ho3
        subst ev
        clear hr3 ho3 hg3 hb3 HM1 HM hsa htk
        cases al with
        | false =>
          have HS1 : Hid (o.send qs = (2, o)) := by show _ = _; rw [HSA.out, if_neg (by decide)]
          have HZW : Hid (o.ln.length * 56 ≤ 140737488355328) := by show _ ≤ _; rw [HON.out]; simp
          go_wp2_with (first
            | (rw [HZ.out])
            | (at_builtin; go_must (refine wpList_appG _ rfl (.tmp 77) (.tmp 78) 34 34 rfl _ _ rfl rfl HR3.out ?_))
            | (go_at_call 10; go_must (refine (HM3.out.la.send HZS HS3.out HWF.out HAP3.out HS1).mono ?_); rintro e w5 ⟨rfl, F5, hL5, hn5⟩; go_must (have HL5 := keepG hL5; clear hL5 hn5))
            | (go_at_call 21; go_must (refine (HL5.out.waiting HZW HON).mono ?_); rintro e w6 ⟨a6, c6, rfl, _, hb6⟩; go_must (have HL6 := keepG (HL5.out.below hb6); clear hb6)))
          go_ret
          exact ⟨rfl, HL6.out.be⟩
        | true =>
          have HS1 : Hid (o.send qs = (0, o.line qs)) := by show _ = _; rw [HSA.out, if_pos rfl]
          have HFQ : Hid (qs.filter T = qs) := by
            show _ = _
            refine List.filter_eq_self.2 (fun x hx => ?_)
            exact (List.all_eq_true.1 HAL.out) x hx
          have HZW : Hid ((o.line qs).ln.length * 56 ≤ 140737488355328) := by show qs.length * 56 ≤ _; omega
          rw [HFQ.out] at HM3
          have HLQ : Hid ((o.line qs).ln = qs) := rfl
          have hqq : ((qs.length : Int) != qs.length) = false := by simp
          go_wp2_with (first
            | (rw [HZ.out])
            | (at_builtin; go_must (refine wpList_appG _ rfl (.tmp 77) (.tmp 78) 34 34 rfl _ _ rfl rfl HR3.out ?_))
            | (go_at_call 10; go_must (refine (HM3.out.la.send HZS HS3.out HWF.out HAP3.out HS1).mono ?_); rintro e w5 ⟨rfl, F5, hL5, hn5⟩; go_must (have HM5 := keepG (HM3.out.goA hL5 hn5); clear hL5 hn5))
            | (have hq := HR7; clear hq; go_at_call 21; go_must (refine (HM8.out.la.waiting HZW HLQ).mono ?_); rintro e w9 ⟨a9, c9, rfl, _, hb9⟩; go_must (have HM9 := keepG (HM8.out.below hb9); clear hb9))
            | (have hq := HR6; clear hq; go_at_call 21; go_must (refine (HM6.out.lb.waiting HZW HLQ).mono ?_); rintro e w7 ⟨a7, c7, rfl, hr7, hb7⟩; go_must (have HM7 := keepG (HM6.out.below hb7); have HR6b := keepG (HR6.out.below hb7); have HR7 := keepG hr7; clear hb7 hr7))
            | (go_at_call 21; go_must (refine (HM5.out.la.waiting HZW HLQ).mono ?_); rintro e w6 ⟨a6, c6, rfl, hr6, hb6⟩; go_must (have HM6 := keepG (HM5.out.below hb6); have HR6 := keepG hr6; clear hb6 hr6))
            | (go_at_call 12; go_must (refine (wlines HR6b.out.sees HR7.out.sees).mono ?_); rintro e w8 ⟨rfl, hb8⟩; go_must (have HM8 := keepG (HM7.out.below hb8); clear hb8)))
          clear HM5 HM6 HM7 HM8 HR6 HR6b HR7 HM3 HS3 HR3 HAP3
          go_loopw [12] (fun i wz => ∃ z : Nat, z ≤ qs.length ∧ i = .int .i64 z ∧ ∃ F G c, Hid (L2 w wz a b F G c c ∧ c.ln = qs.drop z)) (fun i _ => qs.length - (intOf i).toNat)
          case atStart => exact ⟨0, by omega, rfl, F5, G, o.line qs, HM9.out, rfl⟩
          case round =>
            clear HM9
            obtain ⟨z, hz, rfl, F, G, c, HC⟩ := hrel
            rename World => wz
            by_cases hzt : z < qs.length
            · have hztI : (z : Int) < qs.length := by omega
              obtain ⟨p, c', e1, e2, -, -⟩ := step_cons (HC.out.2.trans (drop_cons hzt))
              have HST := keepG e1
              have HLN := keepG e2
              have HZC : Hid (c.ln.length * 56 ≤ 140737488355328) := by show _ ≤ _; rw [HC.out.2, List.length_drop]; omega
              obtain ⟨q, x, ps⟩ := p
              obtain ⟨qf, qt, qw, qm, qo, qk, qv⟩ := q
              obtain ⟨xE, xf, xv, xo, xk, xu⟩ := x
              clear e1 e2
              go_wp2_with (first
                | (have hq := HPX6; clear hq; go_at_call 13; go_must (refine (HM7.out.lb.step HZC HST).mono ?_); rintro e w8 ⟨a8, c8, rfl, G8, hL8, hn8, hr8, _⟩; go_must (unfold rpV; have HM8 := keepG (HM7.out.goB hL8 hn8); have HPX8 := keepG (HPX6.out.chg hn8.chg (fun e => HNG.out e)); have HR8 := keepG (own_keeps HR6.out hn8.chg HGR.out); obtain ⟨W9, HW9, hb9, HPY9⟩ : ∃ W9, Hid (w8.alloc (.cells (rpC ⟨⟨qf, qt, qw, qm, qo, qk, qv⟩, ⟨xE, xf, xv, xo, xk, xu⟩, ps⟩ (.slice a8 ps.length c8)).toArray 50) = W9) ∧ Below w8.heap.size w8 W9 ∧ Hid (Hp W9 w8.heap.size 50 (rpC ⟨⟨qf, qt, qw, qm, qo, qk, qv⟩, ⟨xE, xf, xv, xo, xk, xu⟩, ps⟩ (.slice a8 ps.length c8))) := ⟨_, rfl, below_allocG _ _, Hp.new w8 _ _⟩; have HPX9 := keepG (HPX8.out.below hb9 HPX8.out.lt); have HM9 := keepG (HM8.out.below hb9); have HS8 := keepG ((own_seesG ppC_len Pp.nil HR8.out).below hb9 (Nat.le_refl _)); have HS9 := keepG ((own_seesG ppC_len Pp.nil hr8).below hb9 (Nat.le_refl _)); obtain ⟨⟨x0, x1, x2, x3, x4, x5, x6⟩, x7, x8, x9, x10, x11, x12, x13⟩ := rp_cells HPX9.out; obtain ⟨⟨y0, y1, y2, y3, y4, y5, y6⟩, y7, y8, y9, y10, y11, y12, y13⟩ := rp_cells HPY9.out; clear hL8 hn8 hr8 hb9))
                | (go_at_call 13; go_must (refine (HC.out.1.la.step HZC HST).mono ?_); rintro e w6 ⟨a6, c6, rfl, F6, hL6, hn6, hr6, _⟩; go_must (unfold rpV; have HM6 := keepG (HC.out.1.goA hL6 hn6); obtain ⟨W7, HW7, hb7, HPX6⟩ : ∃ W7, Hid (w6.alloc (.cells (rpC ⟨⟨qf, qt, qw, qm, qo, qk, qv⟩, ⟨xE, xf, xv, xo, xk, xu⟩, ps⟩ (.slice a6 ps.length c6)).toArray 50) = W7) ∧ Below w6.heap.size w6 W7 ∧ Hid (Hp W7 w6.heap.size 50 (rpC ⟨⟨qf, qt, qw, qm, qo, qk, qv⟩, ⟨xE, xf, xv, xo, xk, xu⟩, ps⟩ (.slice a6 ps.length c6))) := ⟨_, rfl, below_allocG _ _, Hp.new w6 _ _⟩; have HM7 := keepG (HM6.out.below hb7); have HR6 := keepG (own_below hr6 hb7 (Nat.le_refl _)); have HNG : Hid (¬ G w6.heap.size) := (fun e => by have := HM6.out.lb.lies _ e; omega); have HGR : Hid (Apt G (ftV (.slice a6 ps.length c6))) := (fun k e1 e2 => by have := HC.out.1.lb.lies k e1; have := (hr6.lt k e2).1; omega); clear hL6 hn6 hr6 hb7))
                | (rw [HW9.out])
                | (rw [HW7.out])
                | (go_at_call 15; go_must (refine (walike (p := ⟨⟨qf, qt, qw, qm, qo, qk, qv⟩, ⟨xE, xf, xv, xo, xk, xu⟩, ps⟩) HS8.out HS9.out).mono ?_); rintro e w10 ⟨rfl, hb10⟩; go_must (have HM10 := keepG (HM9.out.below hb10); clear hb10)))
              go_roundw
              case rel => exact ⟨z + 1, by omega, by go_num, F6, G8, c', HM10.out, HLN.out⟩
              case measure => simp [intOf]; omega
            · have hztI : ¬ (z : Int) < qs.length := by omega
              go_wp2
              go_ret
              exact ⟨rfl, HC.out.1.la.be⟩
/-- OwnerMany. -/
theorem ownerMany_walk (s n : Int) (mv : Value) (es : List (Int × Int)) (qv : Value) (qs : List Rt) (w : World) (hm : SeesG dfC 2 (0, 0) w mv es) (_ : es.length * 16 ≤ 140737488351232) (hs : Rqs w qv qs) (hlen : qs.length * 56 ≤ 140737488351232 ∧ ∀ x ∈ qs, True) :
    Calls Try.prog 6 #[shV s n mv, qv] w fun e w' => e = .returned (.bool true) ∧ Below w.heap.size w w' := ownerMany_ok s n mv es qv qs w hm hs.sees hs.wf hlen.1
end Go.Proofs.Ytpbfgebecgikjaa
