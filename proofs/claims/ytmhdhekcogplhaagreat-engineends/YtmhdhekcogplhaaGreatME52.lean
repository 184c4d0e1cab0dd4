/-
  W11EndsC
  E11Open
-/
import Derived.Test.YtmhdhekcogplhaaGreatME51
import Derived.Test.YtmhdhekcogplhaaGreatME34
import Derived.Test.YtmhdhekcogplhaaGreatME48
import Derived.ProofKit
namespace Go.Proofs.YtmhdhekcogplhaaGreat
open Go.RowKit
set_option linter.unusedVariables false
set_option maxRecDepth 100000
open Go.ChangeShapes Go.WideShapes Go.ChangeAt Go.RowKit
theorem run_errorE {xs : List In} {nm : Nat} : ∀ {n : Nat} {p : Nat} {E : Int}, runK xs nm n = .error (p, E) -> p < n /\ E ≠ 0 := by
 intro n
 induction n with
 | zero => intro p E h; rw [runK] at h; cases h
 | succ n ih =>
  intro p E h
  rw [runK] at h
  cases h0 : runK xs nm n with
  | error e =>
   rw [h0] at h
   simp only at h
   injection h with h
   subst h
   have := ih h0
   exact ⟨by omega, this.2⟩
  | ok K =>
   rw [h0] at h
   simp only at h
   cases h1 : stepK xs nm n K with
   | ok K' => rw [h1] at h; cases h
   | error e =>
    rw [h1] at h
    simp only at h
    injection h with h
    injection h with h2 h3
    subst h2 h3
    refine ⟨by omega, ?_⟩
    unfold stepK at h1
    split at h1
    ·cases h1
    split at h1
    ·injection h1 with h1; subst h1; assumption
    ·cases h1
theorem inq_err2 {ms : List Int} {xs : List In} {P E : Int} (h : inqR ms xs = .error (P, E)) : E ≠ 0 /\ 0 <= P /\ (P = 0 ∨ P < xs.length) := by
 unfold inqR at h
 split at h
 ·injection h with h; injection h with h1 h2; subst h1 h2; exact ⟨by decide, by decide, .inl rfl⟩
 split at h
 ·rename_i hE
  injection h with h; injection h with h1 h2; subst h1 h2
  exact ⟨hE, check_place xs⟩
 ·cases hr : runK xs ms.length xs.length with
  | ok K => rw [hr] at h; cases h
  | error e =>
   rw [hr] at h
   simp only at h
   injection h with h; injection h with h1 h2; subst h1 h2
   have := run_errorE hr
   exact ⟨this.2, by omega, .inr (by omega)⟩
theorem inq_err1 {ms : List Int} {xs : List In} {e : Int × Int} (h : inqR ms xs = .error e) : e.2 ≠ 0 := (inq_err2 (P := e.1) (E := e.2) h).1
theorem judge_err {vm vc : Value} {ms : List Int} {xs : List In} {w : World} (hm : Sees .i64 w vm ms) (hx : SeesI w vc xs) {e : Int × Int} (h : inqR ms xs = .error e) : judgeR ms xs = (e.1, e.2) := by
 unfold judgeR
 rw [h]
theorem ends11_any (vm vc : Value) (ms : List Int) (xs : List In) (ea eb : Int) (vr : Value) (rs : List Rs) (od : Int) (w : World) (h : SeesM w vm vc ms xs) (hr : SeesR w vr rs) (hev : (0 <= ea /\ ea <= 18446744073709551615) /\ 0 <= eb /\ eb <= 18446744073709551615) (hod : -9223372036854775808 <= od /\ od <= 9223372036854775807) (z : ms.length * 8 <= 140737488351232 /\ xs.length * 40 <= 140737488355328 /\ rs.length * 48 <= 140737488355328) :
  Calls Tryz.prog 5 #[runV vm vc ea eb vr od] w fun e w' => e = .returned (.bool true) /\ Below w.heap.size w w' := by
 cases hi : inqR ms xs with
 | error e => exact ends11_bad vm vc ms xs ea eb vr rs od w h hr hev z (P := e.1) (E := e.2) (judge_err h.maps h.code hi) (inq_err1 hi)
 | ok K => exact ends11_ok vm vc ms xs ea eb vr rs od w h hr hev z hi
theorem res_cellsE {H : Type} {enc : TypeId × Value -> H} {W : World} {base fuel : Nat} {sp : Nat -> Bool} {held : Bool} {cs : List Value} {x : DataW H × List MemPlace}
  (h : DataW.trod enc Tryz.prog W base sp held fuel 45 cs = some x) : ∃ (E : Int) (f : Bool) (v : Int) (o : Bool) (k u : Int), cs = [.int .i64 E, .bool f, .int .u64 v, .bool o, .int .u64 k, .int .u64 u] /\ 0 <= v /\ v <= 18446744073709551615 := by
 obtain ⟨xs, n, rfl, hx, hl, hlen, hf⟩ := DataW.trod_struct Tryz.underlying45 h
 have l6 : cs.length = 6 := by rw [hl]; kernel_rfl
 have u0 : Tryz.prog.cellsOf 35 = 1 := by kernel_rfl
 have u1 : Tryz.prog.cellsOf 4 = 1 := by kernel_rfl
 have u2 : Tryz.prog.cellsOf 26 = 1 := by kernel_rfl
 match cs, l6, xs, hlen, hf with
 | [c0, c1, c2, c3, c4, c5], _, [x0, x1, x2, x3, x4, x5], _, hf =>
  have h0 : DataW.trod enc Tryz.prog W base sp held n 35 (([c0, c1, c2, c3, c4, c5].drop 0).take (Tryz.prog.cellsOf 35)) = some x0 := hf 0 _ rfl
  rw [u0] at h0
  have h1 : DataW.trod enc Tryz.prog W base sp held n 4 (([c0, c1, c2, c3, c4, c5].drop 1).take (Tryz.prog.cellsOf 4)) = some x1 := hf 1 _ rfl
  rw [u1] at h1
  have h2 : DataW.trod enc Tryz.prog W base sp held n 26 (([c0, c1, c2, c3, c4, c5].drop 2).take (Tryz.prog.cellsOf 26)) = some x2 := hf 2 _ rfl
  rw [u2] at h2
  have h3 : DataW.trod enc Tryz.prog W base sp held n 4 (([c0, c1, c2, c3, c4, c5].drop 3).take (Tryz.prog.cellsOf 4)) = some x3 := hf 3 _ rfl
  rw [u1] at h3
  have h4 : DataW.trod enc Tryz.prog W base sp held n 26 (([c0, c1, c2, c3, c4, c5].drop 4).take (Tryz.prog.cellsOf 26)) = some x4 := hf 4 _ rfl
  rw [u2] at h4
  have h5 : DataW.trod enc Tryz.prog W base sp held n 26 (([c0, c1, c2, c3, c4, c5].drop 5).take (Tryz.prog.cellsOf 26)) = some x5 := hf 5 _ rfl
  rw [u2] at h5
  obtain ⟨E, e0, y0, g0⟩ := DataW.trod_int Tryz.underlying35 h0
  obtain ⟨f, e1, y1⟩ := DataW.trod_bool Tryz.underlying4 h1
  obtain ⟨v, e2, y2, g2⟩ := DataW.trod_int Tryz.underlying26 h2
  obtain ⟨o, e3, y3⟩ := DataW.trod_bool Tryz.underlying4 h3
  obtain ⟨k, e4, y4, g4⟩ := DataW.trod_int Tryz.underlying26 h4
  obtain ⟨u, e5, y5, g5⟩ := DataW.trod_int Tryz.underlying26 h5
  simp at e0 e1 e2 e3 e4 e5
  subst e0 e1 e2 e3 e4 e5
  exact ⟨E, f, v, o, k, u, rfl, bounds_u64 g2⟩
theorem opens_Res_sh {H : Type} {enc : TypeId × Value -> H} {W : World} {v : Value} {d : DataW H} {p : List MemPlace}
  (hsh : ∃ a len cap, v = .slice a len cap) (h : DataW.Trod enc Tryz.prog W 0 (fun _ => true) true 29 v d p) :
  ∃ xs, SeesR W v xs /\ ((d.weights Tryz.prog 29).all (· <= reachBytes) = true -> xs.length * 48 <= 140737488355328) := by
 obtain ⟨a, len, cap, rfl⟩ := hsh
 have c5 : Tryz.prog.cellsOf 45 = 6 := by kernel_rfl
 obtain ⟨fuel, hf⟩ := h
 rcases DataW.trod_slice Tryz.underlying29 hf with ⟨hcs, hx⟩ | ⟨x, l, c, elems, rest, n, rfl, hcs, hx, _, hl, hm, hlen, hel, hsp, _⟩
 ·simp [Value.cells] at hcs hx
  obtain ⟨rfl, rfl, rfl⟩ := hcs
  obtain ⟨rfl, rfl⟩ := hx
  exact ⟨[], ⟨none, 0, rfl, by simp, by simp [maxLen], fun _ => rfl, by simp, fun h => absurd rfl h⟩, fun _ => by simp⟩
 ·simp [Value.cells] at hcs hx
  obtain ⟨rfl, rfl, rfl⟩ := hcs
  obtain ⟨rfl, rfl⟩ := hx
  have hex : ∀ i : Nat, ∃ I : Rs, i < len -> I.wf /\ (∀ j, j < 6 -> W.cell? ((x.add (i * 6)).add j) = (rsC I)[j]?) := by
   intro i
   by_cases hi : i < len
   ·have h1 := hel i hi
    have hie : i < elems.length := by omega
    rw [c5, List.getElem?_eq_getElem hie, Option.bind_eq_some_iff] at h1
    obtain ⟨cs, hc1, hc2⟩ := h1
    obtain ⟨E, f, v, o, k, u, rfl, hw⟩ := res_cellsE hc2
    exact ⟨⟨E, f, v, o, k, u⟩, fun _ => ⟨hw, (World.cells?_some hc1).2.2⟩⟩
   ·exact ⟨Rs.nil, fun h => absurd h hi⟩
  obtain ⟨g, hg⟩ := Classical.axiomOfChoice hex
  have hxl : ((List.range len).map g).length = len := by simp
  have hgd : ∀ k, k < len -> ((List.range len).map g).getD k Rs.nil = g k := fun k hk => by simp [List.getD, hk]
  refine ⟨(List.range len).map g, ⟨some x, cap, by rw [hxl], by omega, hm, fun h => by simp at h, ?_, fun hne => ?_⟩, ?_⟩
  ·intro i hi
   simp only [List.mem_map, List.mem_range] at hi
   obtain ⟨k, hk, rfl⟩ := hi
   exact (hg k hk).1
  ·have hpos : 0 < len := by
    rcases Nat.eq_zero_or_pos len with h0 | h0
    ·subst h0; exact absurd rfl hne
    ·exact h0
   obtain ⟨b, off, spot⟩ := x
   have h00 := (hg 0 hpos).2 0 (by omega)
   have hspot : spot = none := by
    have := World.cell?_spot (show W.cell? _ = some _ from h00)
    simpa [Addr.add] using this
   subst hspot
   refine ⟨b, off, rfl, ?_, fun k hk => ?_⟩
   ·have := World.block_lt_of_cell? W _ (show W.cell? _ = some _ from h00)
    simpa [Addr.add] using this
   ·rw [hxl] at hk
    rw [hgd k hk]
    have h5 := (hg k hk).2
    simp only [Addr.add_mid] at h5
    exact ⟨h5 0 (by omega), h5 1 (by omega), h5 2 (by omega), h5 3 (by omega), h5 4 (by omega), h5 5 (by omega)⟩
  ·intro hall
   have b40 : Tryz.prog.bytesOf 45 = 48 := by kernel_rfl
   rw [DataW.weights, Tryz.underlying29] at hall
   simp only [List.all_cons, Bool.and_eq_true, decide_eq_true_eq, List.length_map, b40] at hall
   have h1 := hall.1
   unfold reachBytes at h1
   rw [hxl]
   omega
theorem open_Run {H : Type} {enc : TypeId × Value -> H} {W : World} {base : Nat} {v : Value} {d : DataW H} {p : List MemPlace}
  (hok : Value.okWide Tryz.prog W .any base 31 v) (h : DataW.Trod enc Tryz.prog W 0 (fun _ => true) true 31 v d p) :
  ∃ vm vc ea eb vr od ms is rs, v = .agg #[vm, vc, .int .u64 ea, .int .u64 eb, vr, .int .i64 od] /\ SeesM W vm vc ms is /\ SeesR W vr rs /\ ((0 <= ea /\ ea <= 18446744073709551615) /\ 0 <= eb /\ eb <= 18446744073709551615) /\ (-9223372036854775808 <= od /\ od <= 9223372036854775807) /\ ((d.weights Tryz.prog 31).all (· <= reachBytes) = true -> ms.length * 8 <= 140737488351232 /\ is.length * 40 <= 140737488355328 /\ rs.length * 48 <= 140737488355328) := by
 obtain ⟨cs, rfl, _⟩ := okWide_struct Tryz.underlying31 hok
 obtain ⟨fuel, hf⟩ := h
 obtain ⟨xs, n, _, hx, hl, hlen, hf⟩ := DataW.trod_struct Tryz.underlying31 hf
 have e6 : Tryz.prog.cellsOf 31 = 6 := by kernel_rfl
 have l6 : cs.toList.length = 6 := hl.trans e6
 have u0 : Tryz.prog.cellsOf 25 = 2 := by kernel_rfl
 have u1 : Tryz.prog.cellsOf 28 = 2 := by kernel_rfl
 have u2 : Tryz.prog.cellsOf 29 = 1 := by kernel_rfl
 have u3 : Tryz.prog.cellsOf 3 = 1 := by kernel_rfl
 have u4 : Tryz.prog.cellsOf 22 = 1 := by kernel_rfl
 have u5 : Tryz.prog.cellsOf 23 = 1 := by kernel_rfl
 have u6 : Tryz.prog.cellsOf 26 = 1 := by kernel_rfl
 obtain ⟨cl⟩ := cs
 simp only [Value.cells] at hf l6
 match cl, l6, xs, hlen, hf with
 | [c0, c1, c2, c3, c4, c5], _, [x0, x1, x2, x3], _, hf =>
  have h0 : DataW.trod enc Tryz.prog W 0 (fun _ => true) true n 25 (([c0, c1, c2, c3, c4, c5].drop 0).take (Tryz.prog.cellsOf 25)) = some x0 := hf 0 _ rfl
  rw [u0] at h0
  have h1 : DataW.trod enc Tryz.prog W 0 (fun _ => true) true n 28 (([c0, c1, c2, c3, c4, c5].drop 2).take (Tryz.prog.cellsOf 28)) = some x1 := hf 1 _ rfl
  rw [u1] at h1
  have h2 : DataW.trod enc Tryz.prog W 0 (fun _ => true) true n 29 (([c0, c1, c2, c3, c4, c5].drop 4).take (Tryz.prog.cellsOf 29)) = some x2 := hf 2 _ rfl
  rw [u2] at h2
  have h3 : DataW.trod enc Tryz.prog W 0 (fun _ => true) true n 3 (([c0, c1, c2, c3, c4, c5].drop 5).take (Tryz.prog.cellsOf 3)) = some x3 := hf 3 _ rfl
  rw [u3] at h3
  have h0 : DataW.trod enc Tryz.prog W 0 (fun _ => true) true n 25 [c0, c1] = some x0 := h0
  have h1 : DataW.trod enc Tryz.prog W 0 (fun _ => true) true n 28 [c2, c3] = some x1 := h1
  have h2 : DataW.trod enc Tryz.prog W 0 (fun _ => true) true n 29 [c4] = some x2 := h2
  have h3 : DataW.trod enc Tryz.prog W 0 (fun _ => true) true n 3 [c5] = some x3 := h3
  obtain ⟨ys, m, _, hy, _, hylen, hg⟩ := DataW.trod_struct Tryz.underlying25 h0
  obtain ⟨zs, m', _, _, _, hzlen, hg'⟩ := DataW.trod_struct Tryz.underlying28 h1
  match ys, hylen, hg, zs, hzlen, hg' with
  | [y0, y1], _, hg, [z0, z1], _, hg' =>
   have k0 : DataW.trod enc Tryz.prog W 0 (fun _ => true) true m 22 (([c0, c1].drop 0).take (Tryz.prog.cellsOf 22)) = some y0 := hg 0 _ rfl
   rw [u4] at k0
   have k1 : DataW.trod enc Tryz.prog W 0 (fun _ => true) true m 23 (([c0, c1].drop 1).take (Tryz.prog.cellsOf 23)) = some y1 := hg 1 _ rfl
   rw [u5] at k1
   have g0 : DataW.trod enc Tryz.prog W 0 (fun _ => true) true m' 26 (([c2, c3].drop 0).take (Tryz.prog.cellsOf 26)) = some z0 := hg' 0 _ rfl
   rw [u6] at g0
   have g1 : DataW.trod enc Tryz.prog W 0 (fun _ => true) true m' 26 (([c2, c3].drop 1).take (Tryz.prog.cellsOf 26)) = some z1 := hg' 1 _ rfl
   rw [u6] at g1
   have k0 : DataW.trod enc Tryz.prog W 0 (fun _ => true) true m 22 [c0] = some y0 := k0
   have k1 : DataW.trod enc Tryz.prog W 0 (fun _ => true) true m 23 [c1] = some y1 := k1
   obtain ⟨ea, e2, _, w2⟩ := DataW.trod_int Tryz.underlying26 g0
   obtain ⟨eb, e3, _, w3⟩ := DataW.trod_int Tryz.underlying26 g1
   obtain ⟨od, e5, _, w5⟩ := DataW.trod_int Tryz.underlying3 h3
   simp at e2 e3 e5
   subst e2 e3 e5
   obtain ⟨a0, l0, q0, rfl⟩ := slice_of_trod Tryz.underlying22 k0
   obtain ⟨a1, l1, q1, rfl⟩ := slice_of_trod Tryz.underlying23 k1
   obtain ⟨a2, l2, q2, rfl⟩ := slice_of_trod Tryz.underlying29 h2
   obtain ⟨ms, s0, b0⟩ := sees_open_sh (k := .i64) (d := y0.1) (p := y0.2) Tryz.underlying22 Tryz.underlying3 (by kernel_rfl) ⟨_, _, _, rfl⟩ ⟨m, k0⟩
   obtain ⟨is, ⟨s1, w1⟩, _, b1⟩ := opens_Inst_sh (d := y1.1) (p := y1.2) ⟨_, _, _, rfl⟩ ⟨m, k1⟩
   obtain ⟨rs, s2, b2⟩ := opens_Res_sh (d := x2.1) (p := x2.2) ⟨_, _, _, rfl⟩ ⟨n, h2⟩
   refine ⟨_, _, ea, eb, _, od, ms, is, rs, rfl, ⟨s0, s1, w1⟩, s2, ⟨bounds_u64 w2, bounds_u64 w3⟩, bounds_i64 w5, fun hall => ?_⟩
   have hd : d = .agg [x0.1, x1.1, x2.1, x3.1] := congrArg (·.1) hx
   have hd0 : x0.1 = .agg [y0.1, y1.1] := congrArg (·.1) hy
   rw [hd, DataW.weights, Tryz.underlying31] at hall
   simp only [DataW.weightsEach, List.map_cons, List.map_nil, List.all_append, Bool.and_eq_true] at hall
   have hall0 := hall.1
   rw [hd0, DataW.weights, Tryz.underlying25] at hall0
   simp only [DataW.weightsEach, List.map_cons, List.map_nil, List.all_append, Bool.and_eq_true] at hall0
   have b8 : Tryz.prog.bytesOf 3 = 8 := by kernel_rfl
   have r0 := b0 hall0.1
   rw [b8] at r0
   exact ⟨by unfold reachBytes at r0; omega, b1 hall0.2.1, b2 hall.2.2.1⟩
end Go.Proofs.YtmhdhekcogplhaaGreat
