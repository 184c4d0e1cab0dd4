/-
  JMade
  JWrit
-/
import Derived.Test.YtkondcjmhlppiaaGreatMW0
import Derived.Test.YtkondcjmhlppiaaGreatMW29
import Derived.Test.YtkondcjmhlppiaaGreatMW31
import Derived.Test.YtkondcjmhlppiaaGreatMW34
import Derived.Test.YtkondcjmhlppiaaGreatMW35
import Derived.Test.YtkondcjmhlppiaaGreatMW24
import Derived.Deep.RegionHeldLaw
namespace Go.Proofs.YtkondcjmhlppiaaGreat
open Go.RowKit
set_option linter.unusedVariables false
set_option linter.unusedSimpArgs false
set_option maxRecDepth 100000
def madeT (i : In) (s : St) : Ty := if i.op = 0 then srcT i s else if i.op = 11 ∨ i.op = 13 then fullT else if i.op = 14 then ⟨2, 0, 0, i.imm⟩ else if i.op = 21 then (resL i.imm).1 else doT i.op (regT s i.a) (srcT i s)
theorem boxes3 (w : World) (r : Bool) (s : St) (op d a b imm : Int) : ∃ Z, Hid (Z = ((w.alloc (Obj.cells (stC r s).toArray 115)).alloc (instO op d a b imm)).alloc (Obj.cells #[.int .i64 0, .int .u64 0, .int .u64 0, .int .i64 0] 112)) /\ Hid (Hp Z w.heap.size 115 (stC r s)) /\ Hid (Box Z (w.heap.size + 1) op d a b imm) /\ Hid (BxT Z (w.heap.size + 1 + 1) 0 ⟨0, 0, 0, 0⟩) /\ Hid (Below w.heap.size w Z) /\ (Z.heap.size <= w.heap.size + 3 /\ w.heap.size + 3 <= Z.heap.size) :=
 ⟨_, rfl, ((Hp.new w (stC r s) _).alloc _).alloc _, ⟨by go_cell, by go_cell, by go_cell, by go_cell, by go_cell⟩, ⟨⟨by go_cell, by go_cell, by go_cell, by go_cell⟩, by go_simp, by go_simp, by go_simp, by go_simp⟩, keepJ (by go_grown), by simp⟩
theorem BxT.open {w : World} {n : Nat} {t : Ty} (h : BxT w n 0 t) : w.cell? ⟨n, 0, none⟩ = some (.int .i64 t.k) /\ w.cell? ⟨n, 1, none⟩ = some (.int .u64 t.lo) /\ w.cell? ⟨n, 2, none⟩ = some (.int .u64 t.hi) /\ w.cell? ⟨n, 3, none⟩ = some (.int .i64 t.m) /\ w.frozen? ⟨n, 0, none⟩ = false /\ w.frozen? ⟨n, 1, none⟩ = false /\ w.frozen? ⟨n, 2, none⟩ = false /\ w.frozen? ⟨n, 3, none⟩ = false := by
 obtain ⟨⟨h0, h1, h2, h3⟩, h4, h5, h6, h7⟩ := h
 exact ⟨h0, h1, h2, h3, h4, h5, h6, h7⟩
theorem lsource_as {i : In} {t : Ty} {s : St} (h : Hid (srcT i s = t)) (r : Bool) (w : World) (h8 : s.length = 8) (hb : i.b = 8 ∨ (0 <= i.b /\ i.b <= 7)) : Calls Tryz.prog 54 #[stV r s, i.v] w fun e w' => e = .returned (tyV t) /\ Below w.heap.size w w' := by
 rw [<- h.out]; exact lsource_any i r s w h8 hb
set_option maxHeartbeats 1600000 in
theorem lmade_set (nm : Nat) (d a b imm : Int) (r : Bool) (s : St) (w : World) (h8 : Made8 nm s) (hb : b = 8 ∨ (0 <= b /\ b <= 7)) : Calls Tryz.prog 91 #[stV r s, In.v ⟨0, d, a, b, imm⟩] w fun e w' => e = .returned (tyV (srcT ⟨0, d, a, b, imm⟩ s)) /\ Below w.heap.size w w' := by
 obtain ⟨tk, tl, th, tm, HT⟩ : ∃ k lo hi m, Hid (srcT ⟨0, d, a, b, imm⟩ s = ⟨k, lo, hi, m⟩) := ⟨_, _, _, _, rfl⟩
 rw [HT.out]
 obtain ⟨Z, HZ, HsZ, HbZ, HtZ, HBZ, hZz⟩ := boxes3 w r s 0 d a b imm
 obtain ⟨y0, y1, y2, y3, y4⟩ := HbZ.out
 have HL : Hid ((((w.alloc (Obj.cells (stC r s).toArray 115)).alloc (instO 0 d a b imm)).alloc (Obj.cells #[.int .i64 0, .int .u64 0, .int .u64 0, .int .i64 0] 112)).rangeAt w.heap.size 0 (stC r s)) := by
  have := HsZ.out.one
  rw [HZ.out] at this
  exact this
 have HSZ := keepJ (sizeJ (r := r) h8.1)
 go_enter Tryz.func91, Tryz.ntmps91
 go_wp2_with (first
  | ((with_reducible refine wpList_load_mid ?qa 115 (.tmp 2) ?qb w.heap.size 0 ?qc (stC r s) _ HL.out Tryz.underlying115 ?qd HSZ.out ?qe); (case qa => rfl); (case qb => rfl); (case qc => rfl); (case qd => rfl); rw [<- HZ.out])
  | (go_at_call 54; go_must (refine (lsource_as (i := ⟨0, d, a, b, imm⟩) HT r _ h8.1 hb).mono ?_); rintro e w1 ⟨rfl, hb1⟩; go_must (have HX : Hid (BxT w1 (w.heap.size + 1 + 1) 0 ⟨0, 0, 0, 0⟩) := BxT.below HtZ.out hb1 (by omega); have hB1 := HBZ.out.trans (hb1.mono HBZ.out.size); obtain ⟨c0, c1, c2, c3, f0, f1, f2, f3⟩ := BxT.open HX.out; clear hb1)))
 exact box_ret1 rfl rfl (t := ⟨tk, tl, th, tm⟩) HX.out hB1 (by omega)
set_option maxHeartbeats 1600000 in
theorem lmade_full11 (d a b imm : Int) (r : Bool) (s : St) (w : World) : Calls Tryz.prog 91 #[stV r s, In.v ⟨11, d, a, b, imm⟩] w fun e w' => e = .returned (tyV fullT) /\ Below w.heap.size w w' := by
 obtain ⟨Z, HZ, HsZ, HbZ, HtZ, HBZ, hZz⟩ := boxes3 w r s 11 d a b imm
 go_enter Tryz.func91, Tryz.ntmps91
 go_wp2_with (first
  | (go_at_call 82; rw [<- HZ.out]; go_must (refine (lfull_any _).mono ?_); rintro e w1 ⟨rfl, hb1⟩)
  | (go_at_call 80; go_must (refine (lnumber_any _ _ _).mono ?_); rintro e w2 ⟨rfl, hb2⟩; go_must (have hb12 : Below Z.heap.size Z w2 := hb1.trans (hb2.mono hb1.size); have HX : Hid (BxT w2 (w.heap.size + 1 + 1) 0 ⟨0, 0, 0, 0⟩) := BxT.below HtZ.out hb12 (by omega); have hB1 := HBZ.out.trans (hb12.mono HBZ.out.size); obtain ⟨c0, c1, c2, c3, f0, f1, f2, f3⟩ := BxT.open HX.out; clear hb1 hb2 hb12)))
 exact box_ret1 rfl rfl (t := fullT) HX.out hB1 (by omega)
set_option maxHeartbeats 1600000 in
theorem lmade_full13 (d a b imm : Int) (r : Bool) (s : St) (w : World) : Calls Tryz.prog 91 #[stV r s, In.v ⟨13, d, a, b, imm⟩] w fun e w' => e = .returned (tyV fullT) /\ Below w.heap.size w w' := by
 obtain ⟨Z, HZ, HsZ, HbZ, HtZ, HBZ, hZz⟩ := boxes3 w r s 13 d a b imm
 go_enter Tryz.func91, Tryz.ntmps91
 go_wp2_with (first
  | (go_at_call 82; rw [<- HZ.out]; go_must (refine (lfull_any _).mono ?_); rintro e w1 ⟨rfl, hb1⟩)
  | (go_at_call 80; go_must (refine (lnumber_any _ _ _).mono ?_); rintro e w2 ⟨rfl, hb2⟩; go_must (have hb12 : Below Z.heap.size Z w2 := hb1.trans (hb2.mono hb1.size); have HX : Hid (BxT w2 (w.heap.size + 1 + 1) 0 ⟨0, 0, 0, 0⟩) := BxT.below HtZ.out hb12 (by omega); have hB1 := HBZ.out.trans (hb12.mono HBZ.out.size); obtain ⟨c0, c1, c2, c3, f0, f1, f2, f3⟩ := BxT.open HX.out; clear hb1 hb2 hb12)))
 exact box_ret1 rfl rfl (t := fullT) HX.out hB1 (by omega)
set_option maxHeartbeats 1600000 in
theorem lmade_map (d a b imm : Int) (r : Bool) (s : St) (w : World) : Calls Tryz.prog 91 #[stV r s, In.v ⟨14, d, a, b, imm⟩] w fun e w' => e = .returned (tyV ⟨2, 0, 0, imm⟩) /\ Below w.heap.size w w' := by
 go_enter Tryz.func91, Tryz.ntmps91
 go_wp2
 refine bodyPost_ret (v := tyV ⟨2, 0, 0, imm⟩) ?_ rfl ⟨rfl, by go_grown⟩
 rw [results_cell rfl]
 simp [asAddr, Result.andThen]
 rw [run_boxT (k := 2) (lo := 0) (hi := 0) (m := imm)]
 refine ⟨?_, ?_, ?_, ?_⟩ <;> go_cell
theorem box_ret1a {fn : Func} {p : Tmp} {w w2 : World} {n B : Nat} {tmps : Array Value} {t' t : Ty} {o : Obj} (hr : fn.results = #[.cell p 112]) (hp : tmps.getD p undef = .pointer (some ⟨n, 0, none⟩))
  (hx : BxT w2 n 0 t') (hB : Below B w w2) (hn : B <= n) : bodyPost Tryz.prog fn (fun e w' => e = .returned (tyV t) /\ Below B w w') .ret ⟨tmps, []⟩ ((setT w2 n 0 t).alloc o) := by
 have hn2 : n < w2.heap.size := World.block_lt_of_cell? w2 _ hx.1.1
 have hz : w2.heap.size <= (setT w2 n 0 t).heap.size := (grown_sets n (tyC t) w2 0).size
 refine bodyPost_ret (v := tyV t) ?_ rfl ⟨rfl, (below_setT hB hn).alloc (by omega) _⟩
 rw [results_cell hr, hp]
 simp only [asAddr, Sem.run_pure, Result.andThen]
 rw [run_boxT ((hx.1.set t).below ((Below.refl _ _).alloc (Nat.le_refl _) o) (by omega))]
theorem result_as {h k lo hi m : Int} {ok : Bool} (hr : Hid (resL h = (⟨k, lo, hi, m⟩, ok))) (w : World) : Calls Tryz.prog 104 #[.int .i64 h] w fun e w' => e = .returned (.tuple #[tyV ⟨k, lo, hi, m⟩, .bool ok]) /\ Below w.heap.size w w' := by
 have := result_any h w
 rw [hr.out] at this
 exact this
set_option maxHeartbeats 1600000 in
theorem lmade_call (d a b imm : Int) (r : Bool) (s : St) (w : World) : Calls Tryz.prog 91 #[stV r s, In.v ⟨21, d, a, b, imm⟩] w fun e w' => e = .returned (tyV (resL imm).1) /\ Below w.heap.size w w' := by
 obtain ⟨k, lo, hi, m, ok, HR⟩ : ∃ k lo hi m ok, Hid (resL imm = (⟨k, lo, hi, m⟩, ok)) := ⟨_, _, _, _, _, rfl⟩
 rw [HR.out]
 obtain ⟨Z, HZ, HsZ, HbZ, HtZ, HBZ, hZz⟩ := boxes3 w r s 21 d a b imm
 go_enter Tryz.func91, Tryz.ntmps91
 go_wp2_with (first
  | (go_at_call 104; rw [<- HZ.out]; go_must (refine (result_as HR _).mono ?_); rintro e w1 ⟨rfl, hb1⟩; go_must (have HX : Hid (BxT w1 (w.heap.size + 1 + 1) 0 ⟨0, 0, 0, 0⟩) := BxT.below HtZ.out hb1 (by omega); have hB1 := HBZ.out.trans (hb1.mono HBZ.out.size); have hz1 := hb1.size; obtain ⟨c0, c1, c2, c3, f0, f1, f2, f3⟩ := BxT.open HX.out; have hn1 : ¬ w.heap.size + 1 + 1 = w1.heap.size := (by omega); have hn2 : ¬ w1.heap.size = w.heap.size + 1 + 1 := (by omega); have hn3 : w.heap.size + 1 + 1 < w1.heap.size := (by omega); clear hb1)))
 exact box_ret1a rfl rfl (t := ⟨k, lo, hi, m⟩) HX.out hB1 (by omega)
theorem ldo_as {op a A b B jl jh : Int} {ok : Bool} (ha : Hid (wfS (a, A))) (hb : Hid (wfS (b, B))) (h : Hid (optV (doR op a A b B) = .tuple #[.agg #[.int .u64 jl, .int .u64 jh], .bool ok])) (w : World) : Calls Tryz.prog 105 #[.int .i64 op, .agg #[.int .u64 a, .int .u64 A], .agg #[.int .u64 b, .int .u64 B]] w fun e w' => e = .returned (.tuple #[.agg #[.int .u64 jl, .int .u64 jh], .bool ok]) /\ Below w.heap.size w w' := by
 rw [<- h.out]; exact ldo_any op a A b B w ha.out.1 ha.out.2 hb.out.1 hb.out.2
theorem lrefine_as {op a A b B jl jh : Int} {ok h : Bool} (ha : Hid (wfS (a, A))) (hb : Hid (wfS (b, B))) (hj : Hid (optV (refineR op a A b B h) = .tuple #[.agg #[.int .u64 jl, .int .u64 jh], .bool ok])) (w : World) : Calls Tryz.prog 90 #[.int .i64 op, .agg #[.int .u64 a, .int .u64 A], .agg #[.int .u64 b, .int .u64 B], .bool h] w fun e w' => e = .returned (.tuple #[.agg #[.int .u64 jl, .int .u64 jh], .bool ok]) /\ Below w.heap.size w w' := by
 rw [<- hj.out]; exact lrefine_any op a A b B h w ha.out.1 ha.out.2 hb.out.1 hb.out.2
theorem lsource_as4 {i : In} {k lo hi m : Int} {s : St} (h : Hid (srcT i s = ⟨k, lo, hi, m⟩)) (r : Bool) (w : World) (h8 : s.length = 8) (hb : i.b = 8 ∨ (0 <= i.b /\ i.b <= 7)) : Calls Tryz.prog 54 #[stV r s, i.v] w fun e w' => e = .returned (.agg #[.int .i64 k, .int .u64 lo, .int .u64 hi, .int .i64 m]) /\ Below w.heap.size w w' := lsource_as h r w h8 hb
theorem bxs_below {w w' : World} {n : Nat} {x y : Value} (h : w.cell? ⟨n, 0, none⟩ = some x /\ w.cell? ⟨n, 1, none⟩ = some y /\ w.frozen? ⟨n, 0, none⟩ = false /\ w.frozen? ⟨n, 1, none⟩ = false) (hb : Below w.heap.size w w') (hn : n < w.heap.size) : w'.cell? ⟨n, 0, none⟩ = some x /\ w'.cell? ⟨n, 1, none⟩ = some y /\ w'.frozen? ⟨n, 0, none⟩ = false /\ w'.frozen? ⟨n, 1, none⟩ = false := by
 rw [hb.cell (p := ⟨n, 0, none⟩) hn, hb.cell (p := ⟨n, 1, none⟩) hn, hb.frozen (p := ⟨n, 0, none⟩) hn, hb.frozen (p := ⟨n, 1, none⟩) hn]
 exact h
theorem bxs_kept {w w' : World} {x y : Value} {T : TypeId} (hb : Below (w.alloc (Obj.cells #[x, y] T)).heap.size (w.alloc (Obj.cells #[x, y] T)) w') : w.heap.size < w'.heap.size /\ w'.cell? ⟨w.heap.size, 0, none⟩ = some x /\ w'.cell? ⟨w.heap.size, 1, none⟩ = some y /\ w'.frozen? ⟨w.heap.size, 0, none⟩ = false /\ w'.frozen? ⟨w.heap.size, 1, none⟩ = false := by
 have hz : w.heap.size < (w.alloc (Obj.cells #[x, y] T)).heap.size := by simp
 exact ⟨Nat.lt_of_lt_of_le hz hb.size, bxs_below ⟨by go_cell, by go_cell, by go_simp, by go_simp⟩ hb hz⟩
set_option maxHeartbeats 3200000 in
theorem lmade_do (nm : Nat) (op d a b imm : Int) (r : Bool) (s : St) (w : World) (h8 : Made8 nm s) (hop : 1 <= op /\ op <= 10) (ha : 0 <= a /\ a <= 7) (hb : b = 8 ∨ (0 <= b /\ b <= 7)) : Calls Tryz.prog 91 #[stV r s, In.v ⟨op, d, a, b, imm⟩] w fun e w' => e = .returned (tyV (doT op (regT s a) (srcT ⟨op, d, a, b, imm⟩ s))) /\ Below w.heap.size w w' := by
 obtain ⟨n, rfl⟩ := Int.eq_ofNat_of_zero_le ha.1
 have hn : n < 8 := by omega
 obtain ⟨sk, sl, sh, sm, HS⟩ : ∃ k lo hi m, Hid (s.getD n Ty.nil = ⟨k, lo, hi, m⟩) := ⟨_, _, _, _, rfl⟩
 obtain ⟨tk, tl, th, tm, HT⟩ : ∃ k lo hi m, Hid (srcT ⟨op, d, n, b, imm⟩ s = ⟨k, lo, hi, m⟩) := ⟨_, _, _, _, rfl⟩
 obtain ⟨jl, jh, ok, HJ, HE⟩ : ∃ jl jh ok, Hid (optV (doR op sl sh tl th) = .tuple #[.agg #[.int .u64 jl, .int .u64 jh], .bool ok]) /\ Hid (doT op (regT s n) (srcT ⟨op, d, n, b, imm⟩ s) = ⟨1, jl, jh, 0⟩) := by
  have e1 : regT s n = ⟨sk, sl, sh, sm⟩ := HS.out
  unfold doT
  rw [HT.out, e1]
  cases doR op sl sh tl th with
  | none => exact ⟨0, 0, false, rfl, rfl⟩
  | some q => exact ⟨q.1, q.2, true, rfl, rfl⟩
 rw [HE.out]
 have HM1 : Hid (wfS (sl, sh)) := by have := h8.ends hn; rw [HS.out] at this; exact this
 have HM2 : Hid (wfS (tl, th)) := by have := (made_src (i := ⟨op, d, n, b, imm⟩) h8 hb).ends; rw [HT.out] at this; exact this
 have HN0 : ¬ op = 0 := by omega
 have HN1 : ¬ op = 11 := by omega
 have HN2 : ¬ op = 13 := by omega
 have HN3 : ¬ op = 14 := by omega
 have HN4 : ¬ op = 21 := by omega
 obtain ⟨Z, HZ, HsZ, HbZ, HtZ, HBZ, hZz⟩ := boxes3 w r s op d n b imm
 have H8 := keepJ h8.1
 have HB := keepJ hb
 have HOP := keepJ hop
 have hnI : (n : Int) < 8 := by omega
 clear h8 hb hop ha
 go_enter Tryz.func91, Tryz.ntmps91
 go_wp2
 rw [<- HZ.out]
 clear HZ
 obtain ⟨y0, y1, y2, y3, y4⟩ := id HbZ.out
 have hsz := HsZ.out.lt
 have hfl : ∀ wy : World, (Instr.field 112 (.agg #[.int .i64 tk, .int .u64 tl, .int .u64 th, .int .i64 tm]) 1).run Tryz.prog wy = .ok (.agg #[.int .u64 tl, .int .u64 th]) wy := fun _ => by kernel_rfl
 have HP : Hid (∀ w', Below Z.heap.size Z w' -> w'.cell? ⟨w.heap.size + 1, 0, none⟩ = some (.int .i64 op) /\ w'.cell? ⟨w.heap.size + 1, 1, none⟩ = some (.int .i64 d) /\ w'.cell? ⟨w.heap.size + 1, 2, none⟩ = some (.int .i64 n) /\ w'.cell? ⟨w.heap.size + 1, 3, none⟩ = some (.int .i64 b) /\ w'.cell? ⟨w.heap.size + 1, 4, none⟩ = some (.int .i64 imm) /\ w'.cell? ⟨w.heap.size, 1 + n * 4 + 1, none⟩ = some (.int .u64 sl) /\ w'.cell? ⟨w.heap.size, 1 + n * 4 + 1 + 1, none⟩ = some (.int .u64 sh) /\ StAt w' w.heap.size 0 r s /\ True) := fun w' hb' => by
  obtain ⟨q0, q1, q2, q3⟩ := stC_typ (r := r) H8.out hn HS.out
  have hh := HsZ.out.below hb' hsz
  obtain ⟨x0, x1, x2, x3, x4⟩ := Box.below HbZ.out hb' (by omega)
  exact ⟨x0, x1, x2, x3, x4, hh.cell q1, hh.cell q2, hh.one, trivial⟩
 refine wp_region_held_drew (S := fun w' => w'.cell? ⟨w.heap.size + 1, 0, none⟩ = some (.int .i64 op) /\ w'.cell? ⟨w.heap.size + 1, 1, none⟩ = some (.int .i64 d) /\ w'.cell? ⟨w.heap.size + 1, 2, none⟩ = some (.int .i64 n) /\ w'.cell? ⟨w.heap.size + 1, 3, none⟩ = some (.int .i64 b) /\ w'.cell? ⟨w.heap.size + 1, 4, none⟩ = some (.int .i64 imm) /\ w'.cell? ⟨w.heap.size, 1 + n * 4 + 1, none⟩ = some (.int .u64 sl) /\ w'.cell? ⟨w.heap.size, 1 + n * 4 + 1 + 1, none⟩ = some (.int .u64 sh) /\ StAt w' w.heap.size 0 r s /\ True) (by kernel_rfl) (HP.out _ (Below.refl _ _).drew) (fun hHeld => ?_)
 clear y0 y1 y2 y3 y4
-- DO BEGIN
 refine tkGo [0, 1, 2, 3, 4, 5, 6, 7] ?_
 repeat (refine tkO (v := ?_) rfl ?_ ?_; rotate_left; (intro wy hSw; (try dsimp only at hSw); go_simp; (first | done | with_reducible rfl)); try simp only [Act.put, p1q, p2q, p3q, p4q, p5q, p6q])
 refine tkEnd ?_
 refine wpAnyH_take (i := 8) rfl (by kernel_rfl) (by kernel_rfl) (by kernel_rfl) (fun _ _ _ h => h) (yieldsIf_load_mid (by rfl) _ _ rfl _ _ rfl (stC r s) _ (fun w h => h.2.2.2.2.2.2.2.1) Tryz.underlying115 rfl (sizeJ H8.out)) (by assumption) ?_
 try simp only [Act.put, p1q, p2q, p3q, p4q, p5q, p6q]
 refine tkGo [9] ?_
 repeat (refine tkO (v := ?_) rfl ?_ ?_; rotate_left; (intro wy hSw; (try dsimp only at hSw); go_simp; (first | done | with_reducible rfl)); try simp only [Act.put, p1q, p2q, p3q, p4q, p5q, p6q])
 refine tkEnd ?_
 refine runT 10 16 (by kernel_rfl) rfl rfl (by rfl) (by rfl) (fun KK hK => ?_) (fun KK hK => ?_)
 ·go_simp
  go_at_call 54
  refine (lsource_as4 (i := ⟨op, d, n, b, imm⟩) HT r Z.drew H8.out HB.out).mono ?_
  rintro e w1 ⟨rfl, hb1'⟩
  have hb1 : Below Z.heap.size Z w1 := below_undrew hb1'
  have hz1 := hb1.size
  refine hK.out _ _ (HP.out _ hb1) (fun hHeld => ?_)
  clear hK KK
  try simp only [Act.put, p1q, p2q, p3q, p4q, p5q, p6q]
  refine tkGo [11] ?_
  repeat (refine tkO (v := ?_) rfl ?_ ?_; rotate_left; (intro wy hSw; (try dsimp only at hSw); go_simp; (first | done | with_reducible rfl)); try simp only [Act.put, p1q, p2q, p3q, p4q, p5q, p6q])
  refine tkEnd ?_
  refine runT 12 16 (by kernel_rfl) rfl rfl (by rfl) (by rfl) (fun KK hK => ?_) (fun KK hK => ?_)
  ·go_simp
   go_at_call 105
   refine (ldo_as HM1 HM2 HJ w1).mono ?_
   rintro e w2 ⟨rfl, hb2'⟩
   have hb2 : Below Z.heap.size Z w2 := hb1.trans (hb2'.mono hz1)
   refine hK.out _ _ (HP.out _ hb2) (fun hHeld => ?_)
   clear hK KK
   try simp only [Act.put, p1q, p2q, p3q, p4q, p5q, p6q]
   refine tkGo [13, 14, 15] ?_
   repeat (refine tkO (v := ?_) rfl ?_ ?_; rotate_left; (intro wy hSw; (try dsimp only at hSw); go_simp; (first | done | with_reducible rfl)); try simp only [Act.put, p1q, p2q, p3q, p4q, p5q, p6q])
   refine tkEnd ?_
   refine runO 16 (by kernel_rfl) rfl (by rfl) (fun KK hK => ?_)
   go_simp
   refine hK.out _ _ (HP.out _ (hb2.alloc hb2.size _)) (fun hHeld => ?_)
   clear hK KK
   try simp only [Act.put, p1q, p2q, p3q, p4q, p5q, p6q]
   refine runO 17 (by kernel_rfl) rfl (by rfl) (fun KK hK => ?_)
   go_simp
   refine hK.out _ _ (HP.out _ (hb2.alloc hb2.size _)) (fun hHeld => ?_)
   clear hK KK
   try simp only [Act.put, p1q, p2q, p3q, p4q, p5q, p6q]
   refine tkGo [18] ?_
   repeat (refine tkO (v := ?_) rfl ?_ ?_; rotate_left; (intro wy hSw; (try dsimp only at hSw); go_simp; (first | done | with_reducible rfl)); try simp only [Act.put, p1q, p2q, p3q, p4q, p5q, p6q])
   refine tkEnd ?_
   refine wpAnyH_done (by kernel_rfl) ?_ _
   obtain ⟨Y, nb, HY, HNB, hbY, hnb, e0, e1⟩ : ∃ Y nb, Hid (Y = w2.alloc (Obj.cells #[.int .u64 jl, .int .u64 jh] 110)) /\ Hid (w2.heap.size = nb) /\ Below Z.heap.size Z Y /\ (nb < Y.heap.size /\ Z.heap.size <= nb) /\ Y.cell? ⟨nb, 0, none⟩ = some (.int .u64 jl) /\ Y.cell? ⟨nb, 1, none⟩ = some (.int .u64 jh) := ⟨_, _, rfl, rfl, hb2.alloc hb2.size _, ⟨by simp, hb2.size⟩, by go_cell, by go_cell⟩
   rw [<- HY.out, HNB.out]
   clear HY HNB hHeld
   have HX : Hid (BxT Y (w.heap.size + 1 + 1) 0 ⟨0, 0, 0, 0⟩) := BxT.below HtZ.out hbY (by omega)
   have hzY := hbY.size
   go_wp2_with (go_at_call 80; go_must (refine (lnumber_any jl jh _).mono ?_); rintro e w5 ⟨rfl, hb5⟩; go_must (have HX5 : Hid (BxT w5 (w.heap.size + 1 + 1) 0 ⟨0, 0, 0, 0⟩) := BxT.below HX.out hb5 (by omega); have hB5 := HBZ.out.trans ((hbY.trans (hb5.mono hzY)).mono HBZ.out.size); obtain ⟨c0, c1, c2, c3, f0, f1, f2, f3⟩ := BxT.open HX5.out; clear hb5))
   exact box_ret1 rfl rfl (t := ⟨1, jl, jh, 0⟩) HX5.out hB5 (by omega)
  ·go_simp
   refine hK.out _ _ (HP.out _ (hb1.alloc hz1 _)) (fun hHeld => ?_)
   clear hK KK
   try simp only [Act.put, p1q, p2q, p3q, p4q, p5q, p6q]
   refine runO 12 (by kernel_rfl) rfl (by rfl) (fun KK hK => ?_)
   go_simp
   go_at_call 105
   refine (ldo_as HM1 HM2 HJ _).mono ?_
   rintro e w2 ⟨rfl, hb2'⟩
   obtain ⟨hNW, n0, n1, g0, g1⟩ := bxs_kept hb2'
   have hb2 : Below Z.heap.size Z w2 := (hb1.alloc hz1 _).trans (hb2'.mono (by simp; omega))
   have hNB : Z.heap.size <= w1.heap.size := hz1
   have hNZ : w1.heap.size < w2.heap.size := hNW
   refine hK.out _ _ (HP.out _ hb2) (fun hHeld => ?_)
   clear hK KK
   try simp only [Act.put, p1q, p2q, p3q, p4q, p5q, p6q]
   refine tkGo [13, 14, 15] ?_
   repeat (refine tkO (v := ?_) rfl ?_ ?_; rotate_left; (intro wy hSw; (try dsimp only at hSw); go_simp; (first | done | with_reducible rfl)); try simp only [Act.put, p1q, p2q, p3q, p4q, p5q, p6q])
   refine tkEnd ?_
   refine runO 17 (by kernel_rfl) rfl (by rfl) (fun KK hK => ?_)
   go_simp
   refine hK.out _ _ (HP.out _ (below_set (below_set hb2 hNB) hNB)) (fun hHeld => ?_)
   clear hK KK
   try simp only [Act.put, p1q, p2q, p3q, p4q, p5q, p6q]
   refine tkGo [18] ?_
   repeat (refine tkO (v := ?_) rfl ?_ ?_; rotate_left; (intro wy hSw; (try dsimp only at hSw); go_simp; (first | done | with_reducible rfl)); try simp only [Act.put, p1q, p2q, p3q, p4q, p5q, p6q])
   refine tkEnd ?_
   refine wpAnyH_done (by kernel_rfl) ?_ _
   obtain ⟨Y, nb, HY, HNB, hbY, hnb, e0, e1⟩ : ∃ Y nb, Hid (Y = (w2.setCell ⟨w1.heap.size, 0, none⟩ (.int .u64 jl)).setCell ⟨w1.heap.size, 1, none⟩ (.int .u64 jh)) /\ Hid (w1.heap.size = nb) /\ Below Z.heap.size Z Y /\ (nb < Y.heap.size /\ Z.heap.size <= nb) /\ Y.cell? ⟨nb, 0, none⟩ = some (.int .u64 jl) /\ Y.cell? ⟨nb, 1, none⟩ = some (.int .u64 jh) := ⟨_, _, rfl, rfl, below_set (below_set hb2 hNB) hNB, ⟨by simpa [World.setCell] using hNZ, hNB⟩, (set_two n0 n1).1, (set_two n0 n1).2⟩
   rw [<- HY.out, HNB.out]
   clear HY HNB hHeld
   have HX : Hid (BxT Y (w.heap.size + 1 + 1) 0 ⟨0, 0, 0, 0⟩) := BxT.below HtZ.out hbY (by omega)
   have hzY := hbY.size
   go_wp2_with (go_at_call 80; go_must (refine (lnumber_any jl jh _).mono ?_); rintro e w5 ⟨rfl, hb5⟩; go_must (have HX5 : Hid (BxT w5 (w.heap.size + 1 + 1) 0 ⟨0, 0, 0, 0⟩) := BxT.below HX.out hb5 (by omega); have hB5 := HBZ.out.trans ((hbY.trans (hb5.mono hzY)).mono HBZ.out.size); obtain ⟨c0, c1, c2, c3, f0, f1, f2, f3⟩ := BxT.open HX5.out; clear hb5))
   exact box_ret1 rfl rfl (t := ⟨1, jl, jh, 0⟩) HX5.out hB5 (by omega)
 ·go_simp
  have hb0 : Below Z.heap.size Z (Z.alloc (Obj.cells #[.int .u64 0, .int .u64 0] 110)) := (Below.refl _ _).alloc (Nat.le_refl _) _
  refine hK.out _ _ (HP.out _ (hb0.drew)) (fun hHeld => ?_)
  clear hK KK
  try simp only [Act.put, p1q, p2q, p3q, p4q, p5q, p6q]
  refine runO 10 (by kernel_rfl) rfl (by rfl) (fun KK hK => ?_)
  go_simp
  go_at_call 54
  refine (lsource_as4 (i := ⟨op, d, n, b, imm⟩) HT r _ H8.out HB.out).mono ?_
  rintro e w1 ⟨rfl, hb1'⟩
  have hb1u := below_undrew hb1'
  obtain ⟨hNW1, m0, m1, k0, k1⟩ := bxs_kept hb1u
  have hb1 : Below Z.heap.size Z w1 := hb0.trans (hb1u.mono (by simp))
  have hz1 := hb1.size
  refine hK.out _ _ (HP.out _ hb1) (fun hHeld => ?_)
  clear hK KK
  try simp only [Act.put, p1q, p2q, p3q, p4q, p5q, p6q]
  refine tkGo [11] ?_
  repeat (refine tkO (v := ?_) rfl ?_ ?_; rotate_left; (intro wy hSw; (try dsimp only at hSw); go_simp; (first | done | with_reducible rfl)); try simp only [Act.put, p1q, p2q, p3q, p4q, p5q, p6q])
  refine tkEnd ?_
  refine runO 12 (by kernel_rfl) rfl (by rfl) (fun KK hK => ?_)
  go_simp
  go_at_call 105
  refine (ldo_as HM1 HM2 HJ w1).mono ?_
  rintro e w2 ⟨rfl, hb2'⟩
  have hb2 : Below Z.heap.size Z w2 := hb1.trans (hb2'.mono hz1)
  obtain ⟨n0, n1, g0, g1⟩ := bxs_below ⟨m0, m1, k0, k1⟩ hb2' hNW1
  have hNB : Z.heap.size <= Z.heap.size := Nat.le_refl _
  have hNZ : Z.heap.size < w2.heap.size := Nat.lt_of_lt_of_le hNW1 hb2'.size
  refine hK.out _ _ (HP.out _ hb2) (fun hHeld => ?_)
  clear hK KK
  try simp only [Act.put, p1q, p2q, p3q, p4q, p5q, p6q]
  refine tkGo [13, 14, 15] ?_
  repeat (refine tkO (v := ?_) rfl ?_ ?_; rotate_left; (intro wy hSw; (try dsimp only at hSw); go_simp; (first | done | with_reducible rfl)); try simp only [Act.put, p1q, p2q, p3q, p4q, p5q, p6q])
  refine tkEnd ?_
  refine runO 17 (by kernel_rfl) rfl (by rfl) (fun KK hK => ?_)
  go_simp
  refine hK.out _ _ (HP.out _ (below_set (below_set hb2 hNB) hNB)) (fun hHeld => ?_)
  clear hK KK
  try simp only [Act.put, p1q, p2q, p3q, p4q, p5q, p6q]
  refine tkGo [18] ?_
  repeat (refine tkO (v := ?_) rfl ?_ ?_; rotate_left; (intro wy hSw; (try dsimp only at hSw); go_simp; (first | done | with_reducible rfl)); try simp only [Act.put, p1q, p2q, p3q, p4q, p5q, p6q])
  refine tkEnd ?_
  refine wpAnyH_done (by kernel_rfl) ?_ _
  obtain ⟨Y, nb, HY, HNB, hbY, hnb, e0, e1⟩ : ∃ Y nb, Hid (Y = (w2.setCell ⟨Z.heap.size, 0, none⟩ (.int .u64 jl)).setCell ⟨Z.heap.size, 1, none⟩ (.int .u64 jh)) /\ Hid (Z.heap.size = nb) /\ Below Z.heap.size Z Y /\ (nb < Y.heap.size /\ Z.heap.size <= nb) /\ Y.cell? ⟨nb, 0, none⟩ = some (.int .u64 jl) /\ Y.cell? ⟨nb, 1, none⟩ = some (.int .u64 jh) := ⟨_, _, rfl, rfl, below_set (below_set hb2 hNB) hNB, ⟨by simpa [World.setCell] using hNZ, hNB⟩, (set_two n0 n1).1, (set_two n0 n1).2⟩
  rw [<- HY.out, HNB.out]
  clear HY HNB hHeld
  have HX : Hid (BxT Y (w.heap.size + 1 + 1) 0 ⟨0, 0, 0, 0⟩) := BxT.below HtZ.out hbY (by omega)
  have hzY := hbY.size
  go_wp2_with (go_at_call 80; go_must (refine (lnumber_any jl jh _).mono ?_); rintro e w5 ⟨rfl, hb5⟩; go_must (have HX5 : Hid (BxT w5 (w.heap.size + 1 + 1) 0 ⟨0, 0, 0, 0⟩) := BxT.below HX.out hb5 (by omega); have hB5 := HBZ.out.trans ((hbY.trans (hb5.mono hzY)).mono HBZ.out.size); obtain ⟨c0, c1, c2, c3, f0, f1, f2, f3⟩ := BxT.open HX5.out; clear hb5))
  exact box_ret1 rfl rfl (t := ⟨1, jl, jh, 0⟩) HX5.out hB5 (by omega)
-- DO END
theorem Hp.oneR {w : World} {b : Nat} {t : TypeId} {r : Bool} {s : St} (h : Hp w b t (stC r s)) : w.rangeAt b 0 (stC r s) := h.one
theorem writes_op (i : In) (h : i.wr.2 = true) (hr : i.right = true) : (i.wr = (i.d, true) /\ ((0 <= i.op /\ i.op <= 11) ∨ i.op = 13 ∨ i.op = 14)) ∨ (i.wr = (0, true) /\ i.op = 21) := by
 have ho := right_op (op := i.op) hr
 unfold In.wr writesL at h ⊢
 have hr' : ¬ rightB i.op i.d i.a i.b i.imm = false := by simp [show rightB i.op i.d i.a i.b i.imm = true from hr]
 rw [if_neg hr'] at h ⊢
 split
 ·rename_i hc; exact .inl ⟨rfl, by omega⟩
 ·rename_i hc
  have h : (i.op == 21) = true := by simpa [hc] using h
  by_cases h21 : i.op = 21
  ·exact .inr ⟨by simp [h21], h21⟩
  ·simp [h21] at h
theorem lmade_any (nm : Nat) (i : In) (r : Bool) (s : St) (w : World) (h8 : Made8 nm s) (hr : i.right = true) (hw : i.wr.2 = true) : Calls Tryz.prog 91 #[stV r s, i.v] w fun e w' => e = .returned (tyV (madeT i s)) /\ Below w.heap.size w w' := by
 have hop := writes_op i hw hr
 have hsrc := fun h => (right_src hr h).2
 have hrd := fun h => right_reads hr h
 obtain ⟨op, d, a, b, imm⟩ := i
 simp only at hop hsrc hrd
 unfold madeT
 simp only
 by_cases h0 : op = 0
 ·subst h0; rw [if_pos rfl]; exact lmade_set nm d a b imm r s w h8 (hsrc (.inl (by omega)))
 rw [if_neg h0]
 by_cases h1 : op = 11 ∨ op = 13
 ·rw [if_pos h1]
  rcases h1 with rfl | rfl
  ·exact lmade_full11 d a b imm r s w
  ·exact lmade_full13 d a b imm r s w
 rw [if_neg h1]
 by_cases h2 : op = 14
 ·subst h2; rw [if_pos rfl]; exact lmade_map d a b imm r s w
 rw [if_neg h2]
 by_cases h3 : op = 21
 ·subst h3; rw [if_pos rfl]; exact lmade_call d a b imm r s w
 rw [if_neg h3]
 exact lmade_do nm op d a b imm r s w h8 (by omega) (hrd (.inl (by omega))) (hsrc (.inl (by omega)))
theorem lmade_as {nm : Nat} {i : In} {k lo hi m : Int} (r : Bool) {s : St} (w : World) (h : Hid (madeT i s = ⟨k, lo, hi, m⟩)) (h8 : Made8 nm s) (hr : i.right = true) (hw : i.wr.2 = true) : Calls Tryz.prog 91 #[stV r s, i.v] w fun e w' => e = .returned (.agg #[.int .i64 k, .int .u64 lo, .int .u64 hi, .int .i64 m]) /\ Below w.heap.size w w' := by
 have := lmade_any nm i r s w h8 hr hw
 rw [h.out] at this
 exact this
theorem owrites_as {op d a b imm n : Int} {ok : Bool} (h : Hid (writesL op d a b imm = (n, ok))) (w : World) : Calls Tryz.prog 52 #[instV op d a b imm] w fun e w' => e = .returned (.tuple #[.int .i64 n, .bool ok]) /\ Below w.heap.size w w' := by
 have := owrites_any op d a b imm w
 rw [h.out] at this
 exact this
theorem st_ret {fn : Func} {p : Tmp} {w w2 : World} {n B : Nat} {tmps : Array Value} {r : Bool} {s : St} (hr : fn.results = #[.cell p 115]) (hp : tmps.getD p undef = .pointer (some ⟨n, 0, none⟩)) (hx : StAt w2 n 0 r s) (h8 : s.length = 8) (hB : Below B w w2) :
  bodyPost Tryz.prog fn (fun e w' => e = .returned (stV r s) /\ Below B w w') .ret ⟨tmps, []⟩ w2 := by
 refine bodyPost_ret (v := stV r s) ?_ rfl ⟨rfl, hB⟩
 rw [results_cell hr, hp]
 simp only [asAddr, Sem.run_pure, Result.andThen]
 exact run_loadVar_mid w2 n 0 _ _ _ hx Tryz.underlying115 rfl (sizeJ h8)
def zeroC : List Value := [.bool false, .int .i64 0, .int .u64 0, .int .u64 0, .int .i64 0, .int .i64 0, .int .u64 0, .int .u64 0, .int .i64 0, .int .i64 0, .int .u64 0, .int .u64 0, .int .i64 0, .int .i64 0, .int .u64 0, .int .u64 0, .int .i64 0, .int .i64 0, .int .u64 0, .int .u64 0, .int .i64 0, .int .i64 0, .int .u64 0, .int .u64 0, .int .i64 0, .int .i64 0, .int .u64 0, .int .u64 0, .int .i64 0, .int .i64 0, .int .u64 0, .int .u64 0, .int .i64 0]
theorem zeroC_len : zeroC.length = 33 := rfl
theorem boxes3s (w : World) (r : Bool) (s : St) (op d a b imm : Int) : ∃ Z, Hid (Z = ((w.alloc (Obj.cells (stC r s).toArray 115)).alloc (instO op d a b imm)).alloc (Obj.cells #[.bool false, .int .i64 0, .int .u64 0, .int .u64 0, .int .i64 0, .int .i64 0, .int .u64 0, .int .u64 0, .int .i64 0, .int .i64 0, .int .u64 0, .int .u64 0, .int .i64 0, .int .i64 0, .int .u64 0, .int .u64 0, .int .i64 0, .int .i64 0, .int .u64 0, .int .u64 0, .int .i64 0, .int .i64 0, .int .u64 0, .int .u64 0, .int .i64 0, .int .i64 0, .int .u64 0, .int .u64 0, .int .i64 0, .int .i64 0, .int .u64 0, .int .u64 0, .int .i64 0] 115)) /\ Hid (Hp Z w.heap.size 115 (stC r s)) /\ Hid (Box Z (w.heap.size + 1) op d a b imm) /\ Hid (Hp Z (w.heap.size + 1 + 1) 115 zeroC) /\ Hid (Below w.heap.size w Z) /\ (Z.heap.size <= w.heap.size + 3 /\ w.heap.size + 3 <= Z.heap.size) :=
 ⟨_, rfl, ((Hp.new w (stC r s) _).alloc _).alloc _, ⟨by go_cell, by go_cell, by go_cell, by go_cell, by go_cell⟩, keepJ (by have := Hp.new ((w.alloc (Obj.cells (stC r s).toArray 115)).alloc (instO op d a b imm)) zeroC 115; simpa [zeroC] using this), keepJ (by go_grown), by simp⟩
def wrS (i : In) (s : St) : St := if i.wr.2 = true then s.set i.wr.1.toNat (madeT i s) else s
set_option maxHeartbeats 1600000 in
theorem lwritten_no (op d a b imm : Int) (n : Int) (r : Bool) (s : St) (w : World) (h8 : s.length = 8) (HW : Hid (writesL op d a b imm = (n, false))) : Calls Tryz.prog 63 #[stV r s, In.v ⟨op, d, a, b, imm⟩] w fun e w' => e = .returned (stV r s) /\ Below w.heap.size w w' := by
 obtain ⟨Z, HZ, HsZ, HbZ, HtZ, HBZ, hZz⟩ := boxes3s w r s op d a b imm
 obtain ⟨y0, y1, y2, y3, y4⟩ := HbZ.out
 have HSZ := keepJ (sizeJ (r := r) h8)
 have HSA := keepJ (sizeJA (r := r) h8)
 have HS1 := keepJ (stC_all r s)
 go_enter Tryz.func63, Tryz.ntmps63
 go_wp2_with (first
  | (go_at_call 52; rw [<- HZ.out]; go_must (refine (owrites_as HW _).mono ?_); rintro e w1 ⟨rfl, hb1⟩; go_must (have hB1 := HBZ.out.trans (hb1.mono HBZ.out.size); have HL1 := keepJ (HsZ.out.below hb1 (by omega)).oneR; have Ht1 := keepJ (HtZ.out.below hb1 (by omega)); have HT1 := keepJ (show w1.there (w.heap.size + 1 + 1) 0 (stC r s).toArray.size from (by rw [stC_size r h8]; exact Ht1.out.there (by rw [zeroC_len]; omega)))))
  | ((with_reducible refine wpList_load_mid ?qa 115 (.tmp 2) ?qb w.heap.size 0 ?qc (stC r s) _ HL1.out Tryz.underlying115 ?qd HSZ.out ?qe); (case qa => rfl); (case qb => rfl); (case qc => rfl); (case qd => rfl))
  | ((with_reducible refine wpList_store_mid ?ra 115 (.tmp 4) (.tmp 19) ?rb (w.heap.size + 1 + 1) 0 (stC r s).toArray ?rc ?rd HT1.out HSA.out HS1.out ?re); (case ra => rfl); (case rb => rfl); (case rc => rfl); (case rd => rfl)))
 refine st_ret (n := w.heap.size + 1 + 1) rfl rfl ?_ h8 ?_
 ·exact (Ht1.out.box zeroC_len h8).one
 ·exact hB1.trans (grown_to_below (grown_sets _ _ _ _) (by omega) hB1.size)
set_option maxHeartbeats 1600000 in
theorem lwritten_do (nm : Nat) (op d a b imm : Int) (n : Nat) (k lo hi m : Int) (r : Bool) (s : St) (w : World) (h8 : Made8 nm s) (hn : n < 8) (hr : In.right ⟨op, d, a, b, imm⟩ = true) (HW : Hid (writesL op d a b imm = ((n : Int), true))) (HT : Hid (madeT ⟨op, d, a, b, imm⟩ s = ⟨k, lo, hi, m⟩)) : Calls Tryz.prog 63 #[stV r s, In.v ⟨op, d, a, b, imm⟩] w fun e w' => e = .returned (stV r (s.set n ⟨k, lo, hi, m⟩)) /\ Below w.heap.size w w' := by
 obtain ⟨Z, HZ, HsZ, HbZ, HtZ, HBZ, hZz⟩ := boxes3s w r s op d a b imm
 obtain ⟨y0, y1, y2, y3, y4⟩ := HbZ.out
 have h8' : (s.set n ⟨k, lo, hi, m⟩).length = 8 := by rw [List.length_set]; exact h8.1
 have HSZ := keepJ (sizeJ (r := r) h8.1)
 have HSZ2 := keepJ (sizeJ (r := r) h8')
 have HSA := keepJ (sizeJA (r := r) h8')
 have HS1 := keepJ (stC_all r (s.set n ⟨k, lo, hi, m⟩))
 have HQ := keepJ (fun wx (h : Hp wx w.heap.size 115 (stC r s)) => (h.one.typ h8.1 hn : AtT wx w.heap.size (0 + 1 + n * 4) (s.getD n Ty.nil)))
 have hnI : (n : Int) < 8 := by omega
 have hwr : In.wr ⟨op, d, a, b, imm⟩ = ((n : Int), true) := HW.out
 have HRT := keepJ hr
 have HWR := keepJ (show (In.wr ⟨op, d, a, b, imm⟩).2 = true by rw [hwr])
 have H8 := keepJ h8
 clear hwr hr h8
 go_enter Tryz.func63, Tryz.ntmps63
 go_wp2_with (first
  | (go_at_call 52; rw [<- HZ.out]; go_must (refine (owrites_as HW _).mono ?_); rintro e w1 ⟨rfl, hb1⟩; go_must (have hB1 := HBZ.out.trans (hb1.mono HBZ.out.size); have hz1 := hb1.size; have Hs1 := keepJ (HsZ.out.below hb1 (by omega)); have HL1 := keepJ Hs1.out.oneR; have Ht1 := keepJ (HtZ.out.below hb1 (by omega)); obtain ⟨x0, x1, x2, x3, x4⟩ := Box.below HbZ.out hb1 (by omega); clear y0 y1 y2 y3 y4))
  | ((with_reducible refine wpList_load_mid ?qa 115 (.tmp 2) ?qb w.heap.size 0 ?qc (stC r s) _ HL1.out Tryz.underlying115 ?qd HSZ.out ?qe); (case qa => rfl); (case qb => rfl); (case qc => rfl); (case qd => rfl))
  | (go_at_call 91; go_must (refine (lmade_as (i := ⟨op, d, a, b, imm⟩) r w1 HT H8.out HRT.out HWR.out).mono ?_); rintro e w2 ⟨rfl, hb2⟩; go_must (have hB2 := hB1.trans (hb2.mono hB1.size); have hz2 := hb2.size; have Hs2 := keepJ (Hs1.out.below hb2 (by omega)); have Ht2 := keepJ (Ht1.out.below hb2 (by omega)); have HP2 := keepJ (Hs2.out.boxT H8.out.1 hn ⟨k, lo, hi, m⟩); have HL2 := keepJ HP2.out.oneR; have Hu2 := keepJ (Ht2.out.grown (grown_sets w.heap.size (tyC ⟨k, lo, hi, m⟩) w2 (1 + n * 4)) (fun e => by injection e with e; omega)); have HT2 := keepJ (show (setT w2 w.heap.size (1 + n * 4) ⟨k, lo, hi, m⟩).there (w.heap.size + 1 + 1) 0 (stC r (s.set n ⟨k, lo, hi, m⟩)).toArray.size from (by rw [stC_size r h8']; exact Hu2.out.there (by rw [zeroC_len]; omega))); obtain ⟨m0, m1, m2, m3⟩ := HQ.out w2 Hs2.out; simp only [Nat.zero_add] at m0 m1 m2 m3; have f0 := Hs2.out.frozen (1 + n * 4); have f1 := Hs2.out.frozen (1 + n * 4 + 1); have f2 := Hs2.out.frozen (1 + n * 4 + 2); have f3 := Hs2.out.frozen (1 + n * 4 + 3); clear HL1))
  | ((with_reducible refine wpList_load_mid ?pa 115 (.tmp 2) ?pb w.heap.size 0 ?pc (stC r (s.set n ⟨k, lo, hi, m⟩)) _ HL2.out Tryz.underlying115 ?pd HSZ2.out ?pe); (case pa => rfl); (case pb => rfl); (case pc => rfl); (case pd => rfl))
  | ((with_reducible refine wpList_store_mid ?ra 115 (.tmp 4) (.tmp 19) ?rb (w.heap.size + 1 + 1) 0 (stC r (s.set n ⟨k, lo, hi, m⟩)).toArray ?rc ?rd HT2.out HSA.out HS1.out ?re); (case ra => rfl); (case rb => rfl); (case rc => rfl); (case rd => rfl)))
 refine st_ret (n := w.heap.size + 1 + 1) rfl rfl ?_ h8' ?_
 ·exact (Hu2.out.box zeroC_len h8').one
 ·exact (below_setT (t := ⟨k, lo, hi, m⟩) (off := 1 + n * 4) hB2 (Nat.le_refl _)).trans (grown_to_below (grown_sets _ _ _ _) (by omega) (below_setT (t := ⟨k, lo, hi, m⟩) (off := 1 + n * 4) hB2 (Nat.le_refl _)).size)
theorem lwritten_any (nm : Nat) (i : In) (r : Bool) (s : St) (w : World) (h8 : Made8 nm s) (hr : i.right = true) : Calls Tryz.prog 63 #[stV r s, i.v] w fun e w' => e = .returned (stV r (wrS i s)) /\ Below w.heap.size w w' := by
 unfold wrS
 by_cases hw : i.wr.2 = true
 ·rw [if_pos hw]
  have hop := writes_op i hw hr
  have hd : ∃ n : Nat, n < 8 /\ i.wr = ((n : Int), true) := by
   rcases hop with ⟨h, ho⟩ | ⟨h, ho⟩
   ·have := right_dest hr (by omega)
    exact ⟨i.d.toNat, by omega, by rw [h]; congr; omega⟩
   ·exact ⟨0, by omega, by rw [h]; rfl⟩
  obtain ⟨n, hn, he⟩ := hd
  obtain ⟨op, d, a, b, imm⟩ := i
  rw [he]
  exact lwritten_do nm op d a b imm n _ _ _ _ r s w h8 hn hr he rfl
 ·rw [if_neg hw]
  have hw' : i.wr.2 = false := by simpa using hw
  obtain ⟨op, d, a, b, imm⟩ := i
  exact lwritten_no op d a b imm _ r s w h8.1 (show writesL op d a b imm = (_, false) by rw [<- hw']; rfl)
end Go.Proofs.YtkondcjmhlppiaaGreat
