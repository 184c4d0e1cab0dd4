
/-
 What the landed judge's made answers: the type of what an instruction writes. Conditions: a state of eight well made types; the registers that the instruction names are there.
-/
import Derived.Test.YtbaeakbnoijkcaaGreatMT23
import Derived.Test.YtbaeakbnoijkcaaGreatMT30
import Derived.Test.YtbaeakbnoijkcaaGreatMT14
import Derived.Test.YtbaeakbnoijkcaaGreatMT15
import Derived.Test.YtbaeakbnoijkcaaGreatMT19
import Derived.Deep.RegionHeldLaw
namespace Go.Proofs.YtbaeakbnoijkcaaGreat
open Go.RowKit
set_option linter.unusedVariables false
set_option linter.unusedSimpArgs false
set_option maxRecDepth 100000

def madeT (i : In) (s : St) : Ty := if i.op = 0 then srcT i s else if i.op = 11 ∨ i.op = 13 then fullT else if i.op = 14 then ⟨2, 0, 0, i.imm⟩ else if i.op = 21 then (resL i.imm).1 else doT i.op (regT s i.a) (srcT i s)
theorem boxes3 (w : World) (r : Bool) (s : St) (op d a b imm : Int) : ∃ Z, Hid (Z = ((w.alloc (Obj.cells (stC r s).toArray 111)).alloc (instO op d a b imm)).alloc (Obj.cells #[.int .i64 0, .int .u64 0, .int .u64 0, .int .i64 0] 108)) /\ Hid (Hp Z w.heap.size 111 (stC r s)) /\ Hid (Box Z (w.heap.size + 1) op d a b imm) /\ Hid (BxT Z (w.heap.size + 1 + 1) 0 ⟨0, 0, 0, 0⟩) /\ Hid (Below w.heap.size w Z) /\ (Z.heap.size <= w.heap.size + 3 /\ w.heap.size + 3 <= Z.heap.size) :=
 ⟨_, rfl, ((Hp.new w (stC r s) _).alloc _).alloc _, ⟨by go_cell, by go_cell, by go_cell, by go_cell, by go_cell⟩, ⟨⟨by go_cell, by go_cell, by go_cell, by go_cell⟩, by go_simp, by go_simp, by go_simp, by go_simp⟩, keepJ (by go_grown), by simp⟩
theorem BxT.open {w : World} {n : Nat} {t : Ty} (h : BxT w n 0 t) : w.cell? ⟨n, 0, none⟩ = some (.int .i64 t.k) /\ w.cell? ⟨n, 1, none⟩ = some (.int .u64 t.lo) /\ w.cell? ⟨n, 2, none⟩ = some (.int .u64 t.hi) /\ w.cell? ⟨n, 3, none⟩ = some (.int .i64 t.m) /\ w.frozen? ⟨n, 0, none⟩ = false /\ w.frozen? ⟨n, 1, none⟩ = false /\ w.frozen? ⟨n, 2, none⟩ = false /\ w.frozen? ⟨n, 3, none⟩ = false := by
 obtain ⟨⟨h0, h1, h2, h3⟩, h4, h5, h6, h7⟩ := h
 exact ⟨h0, h1, h2, h3, h4, h5, h6, h7⟩
theorem lsource_as {i : In} {t : Ty} {s : St} (h : Hid (srcT i s = t)) (r : Bool) (w : World) (h8 : s.length = 8) (hb : i.b = 8 ∨ (0 <= i.b /\ i.b <= 7)) : Calls Tryz.prog 60 #[stV r s, i.v] w fun e w' => e = .returned (tyV t) /\ Below w.heap.size w w' := by
 rw [<- h.out]; exact lsource_any i r s w h8 hb
set_option maxHeartbeats 1600000 in
theorem lmade_set (nm : Nat) (d a b imm : Int) (r : Bool) (s : St) (w : World) (h8 : Made8 nm s) (hb : b = 8 ∨ (0 <= b /\ b <= 7)) : Calls Tryz.prog 88 #[stV r s, In.v ⟨0, d, a, b, imm⟩] w fun e w' => e = .returned (tyV (srcT ⟨0, d, a, b, imm⟩ s)) /\ Below w.heap.size w w' := by
 obtain ⟨tk, tl, th, tm, HT⟩ : ∃ k lo hi m, Hid (srcT ⟨0, d, a, b, imm⟩ s = ⟨k, lo, hi, m⟩) := ⟨_, _, _, _, rfl⟩
 rw [HT.out]
 obtain ⟨Z, HZ, HsZ, HbZ, HtZ, HBZ, hZz⟩ := boxes3 w r s 0 d a b imm
 obtain ⟨y0, y1, y2, y3, y4⟩ := HbZ.out
 have HL : Hid ((((w.alloc (Obj.cells (stC r s).toArray 111)).alloc (instO 0 d a b imm)).alloc (Obj.cells #[.int .i64 0, .int .u64 0, .int .u64 0, .int .i64 0] 108)).rangeAt w.heap.size 0 (stC r s)) := by
  have := HsZ.out.one
  rw [HZ.out] at this
  exact this
 have HSZ := keepJ (sizeJ (r := r) h8.1)
 go_enter Tryz.func88, Tryz.ntmps88
 go_wp2_with (first
  | ((with_reducible refine wpList_load_mid ?qa 111 (.tmp 2) ?qb w.heap.size 0 ?qc (stC r s) _ HL.out Tryz.underlying111 ?qd HSZ.out ?qe); (case qa => rfl); (case qb => rfl); (case qc => rfl); (case qd => rfl); rw [<- HZ.out])
  | (go_at_call 60; go_must (refine (lsource_as (i := ⟨0, d, a, b, imm⟩) HT r _ h8.1 hb).mono ?_); rintro e w1 ⟨rfl, hb1⟩; go_must (have HX : Hid (BxT w1 (w.heap.size + 1 + 1) 0 ⟨0, 0, 0, 0⟩) := BxT.below HtZ.out hb1 (by omega); have hB1 := HBZ.out.trans (hb1.mono HBZ.out.size); obtain ⟨c0, c1, c2, c3, f0, f1, f2, f3⟩ := BxT.open HX.out; clear hb1)))
 exact box_ret1 rfl rfl (t := ⟨tk, tl, th, tm⟩) HX.out hB1 (by omega)
set_option maxHeartbeats 1600000 in
theorem lmade_full11 (d a b imm : Int) (r : Bool) (s : St) (w : World) : Calls Tryz.prog 88 #[stV r s, In.v ⟨11, d, a, b, imm⟩] w fun e w' => e = .returned (tyV fullT) /\ Below w.heap.size w w' := by
 obtain ⟨Z, HZ, HsZ, HbZ, HtZ, HBZ, hZz⟩ := boxes3 w r s 11 d a b imm
 go_enter Tryz.func88, Tryz.ntmps88
 go_wp2_with (first
  | (go_at_call 79; rw [<- HZ.out]; go_must (refine (qBa _).mono ?_); rintro e w1 ⟨rfl, hb1⟩)
  | (go_at_call 77; go_must (refine (qBe _ _ _).mono ?_); rintro e w2 ⟨rfl, hb2⟩; go_must (have hb12 : Below Z.heap.size Z w2 := hb1.trans (hb2.mono hb1.size); have HX : Hid (BxT w2 (w.heap.size + 1 + 1) 0 ⟨0, 0, 0, 0⟩) := BxT.below HtZ.out hb12 (by omega); have hB1 := HBZ.out.trans (hb12.mono HBZ.out.size); obtain ⟨c0, c1, c2, c3, f0, f1, f2, f3⟩ := BxT.open HX.out; clear hb1 hb2 hb12)))
 exact box_ret1 rfl rfl (t := fullT) HX.out hB1 (by omega)
set_option maxHeartbeats 1600000 in
theorem lmade_full13 (d a b imm : Int) (r : Bool) (s : St) (w : World) : Calls Tryz.prog 88 #[stV r s, In.v ⟨13, d, a, b, imm⟩] w fun e w' => e = .returned (tyV fullT) /\ Below w.heap.size w w' := by
 obtain ⟨Z, HZ, HsZ, HbZ, HtZ, HBZ, hZz⟩ := boxes3 w r s 13 d a b imm
 go_enter Tryz.func88, Tryz.ntmps88
 go_wp2_with (first
  | (go_at_call 79; rw [<- HZ.out]; go_must (refine (qBa _).mono ?_); rintro e w1 ⟨rfl, hb1⟩)
  | (go_at_call 77; go_must (refine (qBe _ _ _).mono ?_); rintro e w2 ⟨rfl, hb2⟩; go_must (have hb12 : Below Z.heap.size Z w2 := hb1.trans (hb2.mono hb1.size); have HX : Hid (BxT w2 (w.heap.size + 1 + 1) 0 ⟨0, 0, 0, 0⟩) := BxT.below HtZ.out hb12 (by omega); have hB1 := HBZ.out.trans (hb12.mono HBZ.out.size); obtain ⟨c0, c1, c2, c3, f0, f1, f2, f3⟩ := BxT.open HX.out; clear hb1 hb2 hb12)))
 exact box_ret1 rfl rfl (t := fullT) HX.out hB1 (by omega)
set_option maxHeartbeats 1600000 in
theorem lmade_map (d a b imm : Int) (r : Bool) (s : St) (w : World) : Calls Tryz.prog 88 #[stV r s, In.v ⟨14, d, a, b, imm⟩] w fun e w' => e = .returned (tyV ⟨2, 0, 0, imm⟩) /\ Below w.heap.size w w' := by
 go_enter Tryz.func88, Tryz.ntmps88
 go_wp2
 refine bodyPost_ret (v := tyV ⟨2, 0, 0, imm⟩) ?_ rfl ⟨rfl, by go_grown⟩
 rw [qAk rfl]
 simp [asAddr, Result.andThen]
 rw [run_boxT (k := 2) (lo := 0) (hi := 0) (m := imm)]
 refine ⟨?_, ?_, ?_, ?_⟩ <;> go_cell
theorem box_ret1a {fn : Func} {p : Tmp} {w w2 : World} {n B : Nat} {tmps : Array Value} {t' t : Ty} {o : Obj} (hr : fn.results = #[.cell p 108]) (hp : tmps.getD p undef = .pointer (some ⟨n, 0, none⟩))
  (hx : BxT w2 n 0 t') (hB : Below B w w2) (hn : B <= n) : bodyPost Tryz.prog fn (fun e w' => e = .returned (tyV t) /\ Below B w w') .ret ⟨tmps, []⟩ ((setT w2 n 0 t).alloc o) := by
 have hn2 : n < w2.heap.size := World.block_lt_of_cell? w2 _ hx.1.1
 have hz : w2.heap.size <= (setT w2 n 0 t).heap.size := (qAa n (tyC t) w2 0).size
 refine bodyPost_ret (v := tyV t) ?_ rfl ⟨rfl, (qAp hB hn).alloc (by omega) _⟩
 rw [qAk hr, hp]
 simp only [asAddr, Sem.run_pure, Result.andThen]
 rw [run_boxT ((hx.1.set t).below ((Below.refl _ _).alloc (Nat.le_refl _) o) (by omega))]
theorem result_as {h k lo hi m : Int} {ok : Bool} (hr : Hid (resL h = (⟨k, lo, hi, m⟩, ok))) (w : World) : Calls Tryz.prog 97 #[.int .i64 h] w fun e w' => e = .returned (.tuple #[tyV ⟨k, lo, hi, m⟩, .bool ok]) /\ Below w.heap.size w w' := by
 have := result_any h w
 rw [hr.out] at this
 exact this
set_option maxHeartbeats 1600000 in
theorem lmade_call (d a b imm : Int) (r : Bool) (s : St) (w : World) : Calls Tryz.prog 88 #[stV r s, In.v ⟨21, d, a, b, imm⟩] w fun e w' => e = .returned (tyV (resL imm).1) /\ Below w.heap.size w w' := by
 obtain ⟨k, lo, hi, m, ok, HR⟩ : ∃ k lo hi m ok, Hid (resL imm = (⟨k, lo, hi, m⟩, ok)) := ⟨_, _, _, _, _, rfl⟩
 rw [HR.out]
 obtain ⟨Z, HZ, HsZ, HbZ, HtZ, HBZ, hZz⟩ := boxes3 w r s 21 d a b imm
 go_enter Tryz.func88, Tryz.ntmps88
 go_wp2_with (first
  | (go_at_call 97; rw [<- HZ.out]; go_must (refine (result_as HR _).mono ?_); rintro e w1 ⟨rfl, hb1⟩; go_must (have HX : Hid (BxT w1 (w.heap.size + 1 + 1) 0 ⟨0, 0, 0, 0⟩) := BxT.below HtZ.out hb1 (by omega); have hB1 := HBZ.out.trans (hb1.mono HBZ.out.size); have hz1 := hb1.size; obtain ⟨c0, c1, c2, c3, f0, f1, f2, f3⟩ := BxT.open HX.out; have hn1 : ¬ w.heap.size + 1 + 1 = w1.heap.size := (by omega); have hn2 : ¬ w1.heap.size = w.heap.size + 1 + 1 := (by omega); have hn3 : w.heap.size + 1 + 1 < w1.heap.size := (by omega); clear hb1)))
 exact box_ret1a rfl rfl (t := ⟨k, lo, hi, m⟩) HX.out hB1 (by omega)
theorem ldo_as {op a A b B jl jh : Int} {ok : Bool} (ha : Hid (wfS (a, A))) (hb : Hid (wfS (b, B))) (h : Hid (optV (doR op a A b B) = .tuple #[.agg #[.int .u64 jl, .int .u64 jh], .bool ok])) (w : World) : Calls Tryz.prog 98 #[.int .i64 op, .agg #[.int .u64 a, .int .u64 A], .agg #[.int .u64 b, .int .u64 B]] w fun e w' => e = .returned (.tuple #[.agg #[.int .u64 jl, .int .u64 jh], .bool ok]) /\ Below w.heap.size w w' := by
 rw [<- h.out]; exact ldo_any op a A b B w ha.out.1 ha.out.2 hb.out.1 hb.out.2
theorem lrefine_as {op a A b B jl jh : Int} {ok h : Bool} (ha : Hid (wfS (a, A))) (hb : Hid (wfS (b, B))) (hj : Hid (optV (refineR op a A b B h) = .tuple #[.agg #[.int .u64 jl, .int .u64 jh], .bool ok])) (w : World) : Calls Tryz.prog 87 #[.int .i64 op, .agg #[.int .u64 a, .int .u64 A], .agg #[.int .u64 b, .int .u64 B], .bool h] w fun e w' => e = .returned (.tuple #[.agg #[.int .u64 jl, .int .u64 jh], .bool ok]) /\ Below w.heap.size w w' := by
 rw [<- hj.out]; exact lrefine_any op a A b B h w ha.out.1 ha.out.2 hb.out.1 hb.out.2
theorem qBd {i : In} {k lo hi m : Int} {s : St} (h : Hid (srcT i s = ⟨k, lo, hi, m⟩)) (r : Bool) (w : World) (h8 : s.length = 8) (hb : i.b = 8 ∨ (0 <= i.b /\ i.b <= 7)) : Calls Tryz.prog 60 #[stV r s, i.v] w fun e w' => e = .returned (.agg #[.int .i64 k, .int .u64 lo, .int .u64 hi, .int .i64 m]) /\ Below w.heap.size w w' := lsource_as h r w h8 hb
theorem bxs_below {w w' : World} {n : Nat} {x y : Value} (h : w.cell? ⟨n, 0, none⟩ = some x /\ w.cell? ⟨n, 1, none⟩ = some y /\ w.frozen? ⟨n, 0, none⟩ = false /\ w.frozen? ⟨n, 1, none⟩ = false) (hb : Below w.heap.size w w') (hn : n < w.heap.size) : w'.cell? ⟨n, 0, none⟩ = some x /\ w'.cell? ⟨n, 1, none⟩ = some y /\ w'.frozen? ⟨n, 0, none⟩ = false /\ w'.frozen? ⟨n, 1, none⟩ = false := by
 rw [hb.cell (p := ⟨n, 0, none⟩) hn, hb.cell (p := ⟨n, 1, none⟩) hn, hb.frozen (p := ⟨n, 0, none⟩) hn, hb.frozen (p := ⟨n, 1, none⟩) hn]
 exact h
theorem bxs_kept {w w' : World} {x y : Value} {T : TypeId} (hb : Below (w.alloc (Obj.cells #[x, y] T)).heap.size (w.alloc (Obj.cells #[x, y] T)) w') : w.heap.size < w'.heap.size /\ w'.cell? ⟨w.heap.size, 0, none⟩ = some x /\ w'.cell? ⟨w.heap.size, 1, none⟩ = some y /\ w'.frozen? ⟨w.heap.size, 0, none⟩ = false /\ w'.frozen? ⟨w.heap.size, 1, none⟩ = false := by
 have hz : w.heap.size < (w.alloc (Obj.cells #[x, y] T)).heap.size := by simp
 exact ⟨Nat.lt_of_lt_of_le hz hb.size, bxs_below ⟨by go_cell, by go_cell, by go_simp, by go_simp⟩ hb hz⟩
set_option maxHeartbeats 3200000 in
theorem lmade_do (nm : Nat) (op d a b imm : Int) (r : Bool) (s : St) (w : World) (h8 : Made8 nm s) (hop : 1 <= op /\ op <= 10) (ha : 0 <= a /\ a <= 7) (hb : b = 8 ∨ (0 <= b /\ b <= 7)) : Calls Tryz.prog 88 #[stV r s, In.v ⟨op, d, a, b, imm⟩] w fun e w' => e = .returned (tyV (doT op (regT s a) (srcT ⟨op, d, a, b, imm⟩ s))) /\ Below w.heap.size w w' := by
 obtain ⟨n, rfl⟩ := Int.eq_ofNat_of_zero_le ha.1
 have hn : n < 8 := by omega
 obtain ⟨sk, sl, sh, sm, HS⟩ : ∃ k lo hi m, Hid (s.getD n Ty.nil = ⟨k, lo, hi, m⟩) := ⟨_, _, _, _, rfl⟩
 obtain ⟨tk, tl, th, tm, HT⟩ : ∃ k lo hi m, Hid (srcT ⟨op, d, n, b, imm⟩ s = ⟨k, lo, hi, m⟩) := ⟨_, _, _, _, rfl⟩
 obtain ⟨jl, jh, ok, HJ, HE⟩ : ∃ jl jh ok, Hid (optV (doR op sl sh tl th) = .tuple #[.agg #[.int .u64 jl, .int .u64 jh], .bool ok]) /\ Hid (doT op (regT s n) (srcT ⟨op, d, n, b, imm⟩ s) = ⟨1, jl, jh, 0⟩) := by
  have e1 : regT s n = ⟨sk, sl, sh, sm⟩ := HS.out
  unfold doT
  rw [HT.out, e1]
  cases doR op sl sh tl th with
  | none => exact ⟨0, 0, false, rfl, rfl⟩
  | some q => exact ⟨q.1, q.2, true, rfl, rfl⟩
 rw [HE.out]
 have HM1 : Hid (wfS (sl, sh)) := by have := h8.ends hn; rw [HS.out] at this; exact this
 have HM2 : Hid (wfS (tl, th)) := by have := (made_src (i := ⟨op, d, n, b, imm⟩) h8 hb).ends; rw [HT.out] at this; exact this
 have HN0 : ¬ op = 0 := by omega
 have HN1 : ¬ op = 11 := by omega
 have HN2 : ¬ op = 13 := by omega
 have HN3 : ¬ op = 14 := by omega
 have HN4 : ¬ op = 21 := by omega
 obtain ⟨Z, HZ, HsZ, HbZ, HtZ, HBZ, hZz⟩ := boxes3 w r s op d n b imm
 have H8 := keepJ h8.1
 have HB := keepJ hb
 have HOP := keepJ hop
 have hnI : (n : Int) < 8 := by omega
 clear h8 hb hop ha
 go_enter Tryz.func88, Tryz.ntmps88
 go_wp2
 rw [<- HZ.out]
 clear HZ
 obtain ⟨y0, y1, y2, y3, y4⟩ := id HbZ.out
 have hsz := HsZ.out.lt
 have hfl : ∀ wy : World, (Instr.field 108 (.agg #[.int .i64 tk, .int .u64 tl, .int .u64 th, .int .i64 tm]) 1).run Tryz.prog wy = .ok (.agg #[.int .u64 tl, .int .u64 th]) wy := fun _ => by kernel_rfl
 have HP : Hid (∀ w', Below Z.heap.size Z w' -> w'.cell? ⟨w.heap.size + 1, 0, none⟩ = some (.int .i64 op) /\ w'.cell? ⟨w.heap.size + 1, 1, none⟩ = some (.int .i64 d) /\ w'.cell? ⟨w.heap.size + 1, 2, none⟩ = some (.int .i64 n) /\ w'.cell? ⟨w.heap.size + 1, 3, none⟩ = some (.int .i64 b) /\ w'.cell? ⟨w.heap.size + 1, 4, none⟩ = some (.int .i64 imm) /\ w'.cell? ⟨w.heap.size, 1 + n * 4 + 1, none⟩ = some (.int .u64 sl) /\ w'.cell? ⟨w.heap.size, 1 + n * 4 + 1 + 1, none⟩ = some (.int .u64 sh) /\ StAt w' w.heap.size 0 r s /\ True) := fun w' hb' => by
  obtain ⟨q0, q1, q2, q3⟩ := stC_typ (r := r) H8.out hn HS.out
  have hh := HsZ.out.below hb' hsz
  obtain ⟨x0, x1, x2, x3, x4⟩ := Box.below HbZ.out hb' (by omega)
  exact ⟨x0, x1, x2, x3, x4, hh.cell q1, hh.cell q2, hh.one, trivial⟩
 refine wp_region_held_drew (S := fun w' => w'.cell? ⟨w.heap.size + 1, 0, none⟩ = some (.int .i64 op) /\ w'.cell? ⟨w.heap.size + 1, 1, none⟩ = some (.int .i64 d) /\ w'.cell? ⟨w.heap.size + 1, 2, none⟩ = some (.int .i64 n) /\ w'.cell? ⟨w.heap.size + 1, 3, none⟩ = some (.int .i64 b) /\ w'.cell? ⟨w.heap.size + 1, 4, none⟩ = some (.int .i64 imm) /\ w'.cell? ⟨w.heap.size, 1 + n * 4 + 1, none⟩ = some (.int .u64 sl) /\ w'.cell? ⟨w.heap.size, 1 + n * 4 + 1 + 1, none⟩ = some (.int .u64 sh) /\ StAt w' w.heap.size 0 r s /\ True) (by kernel_rfl) (HP.out _ (Below.refl _ _).drew) (fun hHeld => ?_)
 clear y0 y1 y2 y3 y4
-- DO BEGIN
 refine wpAnyH_take (i := 0) (v := ?v1) rfl (by kernel_rfl) (by kernel_rfl) (by kernel_rfl) (fun _ _ _ h => h) (Or.inl ⟨by rfl, ?hy1⟩) (by assumption) ?rest1
 case hy1 => (intro wy hSw; (try dsimp only at hSw); go_simp; (first | done | with_reducible rfl))
 try simp only [Act.put, p1q, p2q, p3q, p4q, p5q, p6q]
 refine wpAnyH_take (i := 1) (v := ?v2) rfl (by kernel_rfl) (by kernel_rfl) (by kernel_rfl) (fun _ _ _ h => h) (Or.inl ⟨by rfl, ?hy2⟩) (by assumption) ?rest2
 case hy2 => (intro wy hSw; (try dsimp only at hSw); go_simp; (first | done | with_reducible rfl))
 try simp only [Act.put, p1q, p2q, p3q, p4q, p5q, p6q]
 refine wpAnyH_take (i := 2) (v := ?v3) rfl (by kernel_rfl) (by kernel_rfl) (by kernel_rfl) (fun _ _ _ h => h) (Or.inl ⟨by rfl, ?hy3⟩) (by assumption) ?rest3
 case hy3 => (intro wy hSw; (try dsimp only at hSw); go_simp; (first | done | with_reducible rfl))
 try simp only [Act.put, p1q, p2q, p3q, p4q, p5q, p6q]
 refine wpAnyH_take (i := 3) (v := ?v4) rfl (by kernel_rfl) (by kernel_rfl) (by kernel_rfl) (fun _ _ _ h => h) (Or.inl ⟨by rfl, ?hy4⟩) (by assumption) ?rest4
 case hy4 => (intro wy hSw; (try dsimp only at hSw); go_simp; (first | done | with_reducible rfl))
 try simp only [Act.put, p1q, p2q, p3q, p4q, p5q, p6q]
 refine wpAnyH_take (i := 4) (v := ?v5) rfl (by kernel_rfl) (by kernel_rfl) (by kernel_rfl) (fun _ _ _ h => h) (Or.inl ⟨by rfl, ?hy5⟩) (by assumption) ?rest5
 case hy5 => (intro wy hSw; (try dsimp only at hSw); go_simp; (first | done | with_reducible rfl))
 try simp only [Act.put, p1q, p2q, p3q, p4q, p5q, p6q]
 refine wpAnyH_take (i := 5) (v := ?v6) rfl (by kernel_rfl) (by kernel_rfl) (by kernel_rfl) (fun _ _ _ h => h) (Or.inl ⟨by rfl, ?hy6⟩) (by assumption) ?rest6
 case hy6 => (intro wy hSw; (try dsimp only at hSw); go_simp; (first | done | with_reducible rfl))
 try simp only [Act.put, p1q, p2q, p3q, p4q, p5q, p6q]
 refine wpAnyH_take (i := 6) (v := ?v7) rfl (by kernel_rfl) (by kernel_rfl) (by kernel_rfl) (fun _ _ _ h => h) (Or.inl ⟨by rfl, ?hy7⟩) (by assumption) ?rest7
 case hy7 => (intro wy hSw; (try dsimp only at hSw); go_simp; (first | done | with_reducible rfl))
 try simp only [Act.put, p1q, p2q, p3q, p4q, p5q, p6q]
 refine wpAnyH_take (i := 7) (v := ?v8) rfl (by kernel_rfl) (by kernel_rfl) (by kernel_rfl) (fun _ _ _ h => h) (Or.inl ⟨by rfl, ?hy8⟩) (by assumption) ?rest8
 case hy8 => (intro wy hSw; (try dsimp only at hSw); go_simp; (first | done | with_reducible rfl))
 try simp only [Act.put, p1q, p2q, p3q, p4q, p5q, p6q]
 refine wpAnyH_take (i := 8) rfl (by kernel_rfl) (by kernel_rfl) (by kernel_rfl) (fun _ _ _ h => h) (yieldsIf_load_mid (by rfl) _ _ rfl _ _ rfl (stC r s) _ (fun w h => h.2.2.2.2.2.2.2.1) Tryz.underlying111 rfl (sizeJ H8.out)) (by assumption) ?_
 try simp only [Act.put, p1q, p2q, p3q, p4q, p5q, p6q]
 refine wpAnyH_take (i := 9) (v := ?v9) rfl (by kernel_rfl) (by kernel_rfl) (by kernel_rfl) (fun _ _ _ h => h) (Or.inl ⟨by rfl, ?hy9⟩) (by assumption) ?rest9
 case hy9 => (intro wy hSw; (try dsimp only at hSw); go_simp; (first | done | with_reducible rfl))
 try simp only [Act.put, p1q, p2q, p3q, p4q, p5q, p6q]
 refine wpAnyH_ready (rs := [10, 16]) (by kernel_rfl) (by simp) ?_
 refine AllReadyH.cons rfl (fun KK hK => ?_) (AllReadyH.cons rfl (fun KK hK => ?_) AllReadyH.nil) <;> rw [if_pos (by rfl)]
 ·go_simp
  go_at_call 60
  refine (qBd (i := ⟨op, d, n, b, imm⟩) HT r Z.drew H8.out HB.out).mono ?_
  rintro e w1 ⟨rfl, hb1'⟩
  have hb1 : Below Z.heap.size Z w1 := qAi hb1'
  have hz1 := hb1.size
  refine hK.out _ _ (HP.out _ hb1) (fun hHeld => ?_)
  clear hK KK
  try simp only [Act.put, p1q, p2q, p3q, p4q, p5q, p6q]
  refine wpAnyH_take (i := 11) (v := ?v10) rfl (by kernel_rfl) (by kernel_rfl) (by kernel_rfl) (fun _ _ _ h => h) (Or.inl ⟨by rfl, ?hy10⟩) (by assumption) ?rest10
  case hy10 => (intro wy hSw; (try dsimp only at hSw); go_simp; (first | done | with_reducible rfl))
  try simp only [Act.put, p1q, p2q, p3q, p4q, p5q, p6q]
  refine wpAnyH_ready (rs := [12, 16]) (by kernel_rfl) (by simp) ?_
  refine AllReadyH.cons rfl (fun KK hK => ?_) (AllReadyH.cons rfl (fun KK hK => ?_) AllReadyH.nil) <;> rw [if_pos (by rfl)]
  ·go_simp
   go_at_call 98
   refine (ldo_as HM1 HM2 HJ w1).mono ?_
   rintro e w2 ⟨rfl, hb2'⟩
   have hb2 : Below Z.heap.size Z w2 := hb1.trans (hb2'.mono hz1)
   refine hK.out _ _ (HP.out _ hb2) (fun hHeld => ?_)
   clear hK KK
   try simp only [Act.put, p1q, p2q, p3q, p4q, p5q, p6q]
   refine wpAnyH_take (i := 13) (v := ?v11) rfl (by kernel_rfl) (by kernel_rfl) (by kernel_rfl) (fun _ _ _ h => h) (Or.inl ⟨by rfl, ?hy11⟩) (by assumption) ?rest11
   case hy11 => (intro wy hSw; (try dsimp only at hSw); go_simp; (first | done | with_reducible rfl))
   try simp only [Act.put, p1q, p2q, p3q, p4q, p5q, p6q]
   refine wpAnyH_take (i := 14) (v := ?v12) rfl (by kernel_rfl) (by kernel_rfl) (by kernel_rfl) (fun _ _ _ h => h) (Or.inl ⟨by rfl, ?hy12⟩) (by assumption) ?rest12
   case hy12 => (intro wy hSw; (try dsimp only at hSw); go_simp; (first | done | with_reducible rfl))
   try simp only [Act.put, p1q, p2q, p3q, p4q, p5q, p6q]
   refine wpAnyH_take (i := 15) (v := ?v13) rfl (by kernel_rfl) (by kernel_rfl) (by kernel_rfl) (fun _ _ _ h => h) (Or.inl ⟨by rfl, ?hy13⟩) (by assumption) ?rest13
   case hy13 => (intro wy hSw; (try dsimp only at hSw); go_simp; (first | done | with_reducible rfl))
   try simp only [Act.put, p1q, p2q, p3q, p4q, p5q, p6q]
   refine wpAnyH_ready (rs := [16]) (by kernel_rfl) (by simp) ?_
   refine AllReadyH.cons rfl (fun KK hK => ?_) AllReadyH.nil
   rw [if_pos (by rfl)]
   go_simp
   refine hK.out _ _ (HP.out _ (hb2.alloc hb2.size _)) (fun hHeld => ?_)
   clear hK KK
   try simp only [Act.put, p1q, p2q, p3q, p4q, p5q, p6q]
   refine wpAnyH_ready (rs := [17]) (by kernel_rfl) (by simp) ?_
   refine AllReadyH.cons rfl (fun KK hK => ?_) AllReadyH.nil
   rw [if_pos (by rfl)]
   go_simp
   refine hK.out _ _ (HP.out _ (hb2.alloc hb2.size _)) (fun hHeld => ?_)
   clear hK KK
   try simp only [Act.put, p1q, p2q, p3q, p4q, p5q, p6q]
   refine wpAnyH_take (i := 18) (v := ?v14) rfl (by kernel_rfl) (by kernel_rfl) (by kernel_rfl) (fun _ _ _ h => h) (Or.inl ⟨by rfl, ?hy14⟩) (by assumption) ?rest14
   case hy14 => (intro wy hSw; (try dsimp only at hSw); go_simp; (first | done | with_reducible rfl))
   try simp only [Act.put, p1q, p2q, p3q, p4q, p5q, p6q]
   refine wpAnyH_done (by kernel_rfl) ?_ _
   obtain ⟨Y, nb, HY, HNB, hbY, hnb, e0, e1⟩ : ∃ Y nb, Hid (Y = w2.alloc (Obj.cells #[.int .u64 jl, .int .u64 jh] 106)) /\ Hid (w2.heap.size = nb) /\ Below Z.heap.size Z Y /\ (nb < Y.heap.size /\ Z.heap.size <= nb) /\ Y.cell? ⟨nb, 0, none⟩ = some (.int .u64 jl) /\ Y.cell? ⟨nb, 1, none⟩ = some (.int .u64 jh) := ⟨_, _, rfl, rfl, hb2.alloc hb2.size _, ⟨by simp, hb2.size⟩, by go_cell, by go_cell⟩
   rw [<- HY.out, HNB.out]
   clear HY HNB hHeld
   have HX : Hid (BxT Y (w.heap.size + 1 + 1) 0 ⟨0, 0, 0, 0⟩) := BxT.below HtZ.out hbY (by omega)
   have hzY := hbY.size
   go_wp2_with (go_at_call 77; go_must (refine (qBe jl jh _).mono ?_); rintro e w5 ⟨rfl, hb5⟩; go_must (have HX5 : Hid (BxT w5 (w.heap.size + 1 + 1) 0 ⟨0, 0, 0, 0⟩) := BxT.below HX.out hb5 (by omega); have hB5 := HBZ.out.trans ((hbY.trans (hb5.mono hzY)).mono HBZ.out.size); obtain ⟨c0, c1, c2, c3, f0, f1, f2, f3⟩ := BxT.open HX5.out; clear hb5))
   exact box_ret1 rfl rfl (t := ⟨1, jl, jh, 0⟩) HX5.out hB5 (by omega)
  ·go_simp
   refine hK.out _ _ (HP.out _ (hb1.alloc hz1 _)) (fun hHeld => ?_)
   clear hK KK
   try simp only [Act.put, p1q, p2q, p3q, p4q, p5q, p6q]
   refine wpAnyH_ready (rs := [12]) (by kernel_rfl) (by simp) ?_
   refine AllReadyH.cons rfl (fun KK hK => ?_) AllReadyH.nil
   rw [if_pos (by rfl)]
   go_simp
   go_at_call 98
   refine (ldo_as HM1 HM2 HJ _).mono ?_
   rintro e w2 ⟨rfl, hb2'⟩
   obtain ⟨hNW, n0, n1, g0, g1⟩ := bxs_kept hb2'
   have hb2 : Below Z.heap.size Z w2 := (hb1.alloc hz1 _).trans (hb2'.mono (by simp; omega))
   have hNB : Z.heap.size <= w1.heap.size := hz1
   have hNZ : w1.heap.size < w2.heap.size := hNW
   refine hK.out _ _ (HP.out _ hb2) (fun hHeld => ?_)
   clear hK KK
   try simp only [Act.put, p1q, p2q, p3q, p4q, p5q, p6q]
   refine wpAnyH_take (i := 13) (v := ?v15) rfl (by kernel_rfl) (by kernel_rfl) (by kernel_rfl) (fun _ _ _ h => h) (Or.inl ⟨by rfl, ?hy15⟩) (by assumption) ?rest15
   case hy15 => (intro wy hSw; (try dsimp only at hSw); go_simp; (first | done | with_reducible rfl))
   try simp only [Act.put, p1q, p2q, p3q, p4q, p5q, p6q]
   refine wpAnyH_take (i := 14) (v := ?v16) rfl (by kernel_rfl) (by kernel_rfl) (by kernel_rfl) (fun _ _ _ h => h) (Or.inl ⟨by rfl, ?hy16⟩) (by assumption) ?rest16
   case hy16 => (intro wy hSw; (try dsimp only at hSw); go_simp; (first | done | with_reducible rfl))
   try simp only [Act.put, p1q, p2q, p3q, p4q, p5q, p6q]
   refine wpAnyH_take (i := 15) (v := ?v17) rfl (by kernel_rfl) (by kernel_rfl) (by kernel_rfl) (fun _ _ _ h => h) (Or.inl ⟨by rfl, ?hy17⟩) (by assumption) ?rest17
   case hy17 => (intro wy hSw; (try dsimp only at hSw); go_simp; (first | done | with_reducible rfl))
   try simp only [Act.put, p1q, p2q, p3q, p4q, p5q, p6q]
   refine wpAnyH_ready (rs := [17]) (by kernel_rfl) (by simp) ?_
   refine AllReadyH.cons rfl (fun KK hK => ?_) AllReadyH.nil
   rw [if_pos (by rfl)]
   go_simp
   refine hK.out _ _ (HP.out _ (qAb (qAb hb2 hNB) hNB)) (fun hHeld => ?_)
   clear hK KK
   try simp only [Act.put, p1q, p2q, p3q, p4q, p5q, p6q]
   refine wpAnyH_take (i := 18) (v := ?v18) rfl (by kernel_rfl) (by kernel_rfl) (by kernel_rfl) (fun _ _ _ h => h) (Or.inl ⟨by rfl, ?hy18⟩) (by assumption) ?rest18
   case hy18 => (intro wy hSw; (try dsimp only at hSw); go_simp; (first | done | with_reducible rfl))
   try simp only [Act.put, p1q, p2q, p3q, p4q, p5q, p6q]
   refine wpAnyH_done (by kernel_rfl) ?_ _
   obtain ⟨Y, nb, HY, HNB, hbY, hnb, e0, e1⟩ : ∃ Y nb, Hid (Y = (w2.setCell ⟨w1.heap.size, 0, none⟩ (.int .u64 jl)).setCell ⟨w1.heap.size, 1, none⟩ (.int .u64 jh)) /\ Hid (w1.heap.size = nb) /\ Below Z.heap.size Z Y /\ (nb < Y.heap.size /\ Z.heap.size <= nb) /\ Y.cell? ⟨nb, 0, none⟩ = some (.int .u64 jl) /\ Y.cell? ⟨nb, 1, none⟩ = some (.int .u64 jh) := ⟨_, _, rfl, rfl, qAb (qAb hb2 hNB) hNB, ⟨by simpa [World.setCell] using hNZ, hNB⟩, (qAj n0 n1).1, (qAj n0 n1).2⟩
   rw [<- HY.out, HNB.out]
   clear HY HNB hHeld
   have HX : Hid (BxT Y (w.heap.size + 1 + 1) 0 ⟨0, 0, 0, 0⟩) := BxT.below HtZ.out hbY (by omega)
   have hzY := hbY.size
   go_wp2_with (go_at_call 77; go_must (refine (qBe jl jh _).mono ?_); rintro e w5 ⟨rfl, hb5⟩; go_must (have HX5 : Hid (BxT w5 (w.heap.size + 1 + 1) 0 ⟨0, 0, 0, 0⟩) := BxT.below HX.out hb5 (by omega); have hB5 := HBZ.out.trans ((hbY.trans (hb5.mono hzY)).mono HBZ.out.size); obtain ⟨c0, c1, c2, c3, f0, f1, f2, f3⟩ := BxT.open HX5.out; clear hb5))
   exact box_ret1 rfl rfl (t := ⟨1, jl, jh, 0⟩) HX5.out hB5 (by omega)
 ·go_simp
  have hb0 : Below Z.heap.size Z (Z.alloc (Obj.cells #[.int .u64 0, .int .u64 0] 106)) := (Below.refl _ _).alloc (Nat.le_refl _) _
  refine hK.out _ _ (HP.out _ (hb0.drew)) (fun hHeld => ?_)
  clear hK KK
  try simp only [Act.put, p1q, p2q, p3q, p4q, p5q, p6q]
  refine wpAnyH_ready (rs := [10]) (by kernel_rfl) (by simp) ?_
  refine AllReadyH.cons rfl (fun KK hK => ?_) AllReadyH.nil
  rw [if_pos (by rfl)]
  go_simp
  go_at_call 60
  refine (qBd (i := ⟨op, d, n, b, imm⟩) HT r _ H8.out HB.out).mono ?_
  rintro e w1 ⟨rfl, hb1'⟩
  have hb1u := qAi hb1'
  obtain ⟨hNW1, m0, m1, k0, k1⟩ := bxs_kept hb1u
  have hb1 : Below Z.heap.size Z w1 := hb0.trans (hb1u.mono (by simp))
  have hz1 := hb1.size
  refine hK.out _ _ (HP.out _ hb1) (fun hHeld => ?_)
  clear hK KK
  try simp only [Act.put, p1q, p2q, p3q, p4q, p5q, p6q]
  refine wpAnyH_take (i := 11) (v := ?v19) rfl (by kernel_rfl) (by kernel_rfl) (by kernel_rfl) (fun _ _ _ h => h) (Or.inl ⟨by rfl, ?hy19⟩) (by assumption) ?rest19
  case hy19 => (intro wy hSw; (try dsimp only at hSw); go_simp; (first | done | with_reducible rfl))
  try simp only [Act.put, p1q, p2q, p3q, p4q, p5q, p6q]
  refine wpAnyH_ready (rs := [12]) (by kernel_rfl) (by simp) ?_
  refine AllReadyH.cons rfl (fun KK hK => ?_) AllReadyH.nil
  rw [if_pos (by rfl)]
  go_simp
  go_at_call 98
  refine (ldo_as HM1 HM2 HJ w1).mono ?_
  rintro e w2 ⟨rfl, hb2'⟩
  have hb2 : Below Z.heap.size Z w2 := hb1.trans (hb2'.mono hz1)
  obtain ⟨n0, n1, g0, g1⟩ := bxs_below ⟨m0, m1, k0, k1⟩ hb2' hNW1
  have hNB : Z.heap.size <= Z.heap.size := Nat.le_refl _
  have hNZ : Z.heap.size < w2.heap.size := Nat.lt_of_lt_of_le hNW1 hb2'.size
  refine hK.out _ _ (HP.out _ hb2) (fun hHeld => ?_)
  clear hK KK
  try simp only [Act.put, p1q, p2q, p3q, p4q, p5q, p6q]
  refine wpAnyH_take (i := 13) (v := ?v20) rfl (by kernel_rfl) (by kernel_rfl) (by kernel_rfl) (fun _ _ _ h => h) (Or.inl ⟨by rfl, ?hy20⟩) (by assumption) ?rest20
  case hy20 => (intro wy hSw; (try dsimp only at hSw); go_simp; (first | done | with_reducible rfl))
  try simp only [Act.put, p1q, p2q, p3q, p4q, p5q, p6q]
  refine wpAnyH_take (i := 14) (v := ?v21) rfl (by kernel_rfl) (by kernel_rfl) (by kernel_rfl) (fun _ _ _ h => h) (Or.inl ⟨by rfl, ?hy21⟩) (by assumption) ?rest21
  case hy21 => (intro wy hSw; (try dsimp only at hSw); go_simp; (first | done | with_reducible rfl))
  try simp only [Act.put, p1q, p2q, p3q, p4q, p5q, p6q]
  refine wpAnyH_take (i := 15) (v := ?v22) rfl (by kernel_rfl) (by kernel_rfl) (by kernel_rfl) (fun _ _ _ h => h) (Or.inl ⟨by rfl, ?hy22⟩) (by assumption) ?rest22
  case hy22 => (intro wy hSw; (try dsimp only at hSw); go_simp; (first | done | with_reducible rfl))
  try simp only [Act.put, p1q, p2q, p3q, p4q, p5q, p6q]
  refine wpAnyH_ready (rs := [17]) (by kernel_rfl) (by simp) ?_
  refine AllReadyH.cons rfl (fun KK hK => ?_) AllReadyH.nil
  rw [if_pos (by rfl)]
  go_simp
  refine hK.out _ _ (HP.out _ (qAb (qAb hb2 hNB) hNB)) (fun hHeld => ?_)
  clear hK KK
  try simp only [Act.put, p1q, p2q, p3q, p4q, p5q, p6q]
  refine wpAnyH_take (i := 18) (v := ?v23) rfl (by kernel_rfl) (by kernel_rfl) (by kernel_rfl) (fun _ _ _ h => h) (Or.inl ⟨by rfl, ?hy23⟩) (by assumption) ?rest23
  case hy23 => (intro wy hSw; (try dsimp only at hSw); go_simp; (first | done | with_reducible rfl))
  try simp only [Act.put, p1q, p2q, p3q, p4q, p5q, p6q]
  refine wpAnyH_done (by kernel_rfl) ?_ _
  obtain ⟨Y, nb, HY, HNB, hbY, hnb, e0, e1⟩ : ∃ Y nb, Hid (Y = (w2.setCell ⟨Z.heap.size, 0, none⟩ (.int .u64 jl)).setCell ⟨Z.heap.size, 1, none⟩ (.int .u64 jh)) /\ Hid (Z.heap.size = nb) /\ Below Z.heap.size Z Y /\ (nb < Y.heap.size /\ Z.heap.size <= nb) /\ Y.cell? ⟨nb, 0, none⟩ = some (.int .u64 jl) /\ Y.cell? ⟨nb, 1, none⟩ = some (.int .u64 jh) := ⟨_, _, rfl, rfl, qAb (qAb hb2 hNB) hNB, ⟨by simpa [World.setCell] using hNZ, hNB⟩, (qAj n0 n1).1, (qAj n0 n1).2⟩
  rw [<- HY.out, HNB.out]
  clear HY HNB hHeld
  have HX : Hid (BxT Y (w.heap.size + 1 + 1) 0 ⟨0, 0, 0, 0⟩) := BxT.below HtZ.out hbY (by omega)
  have hzY := hbY.size
  go_wp2_with (go_at_call 77; go_must (refine (qBe jl jh _).mono ?_); rintro e w5 ⟨rfl, hb5⟩; go_must (have HX5 : Hid (BxT w5 (w.heap.size + 1 + 1) 0 ⟨0, 0, 0, 0⟩) := BxT.below HX.out hb5 (by omega); have hB5 := HBZ.out.trans ((hbY.trans (hb5.mono hzY)).mono HBZ.out.size); obtain ⟨c0, c1, c2, c3, f0, f1, f2, f3⟩ := BxT.open HX5.out; clear hb5))
  exact box_ret1 rfl rfl (t := ⟨1, jl, jh, 0⟩) HX5.out hB5 (by omega)
-- DO END
end Go.Proofs.YtbaeakbnoijkcaaGreat
