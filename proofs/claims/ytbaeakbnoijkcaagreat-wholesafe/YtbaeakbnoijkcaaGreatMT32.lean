
/-
 What the landed judge's written answers: what is known behind an instruction that goes on. Conditions: a right instruction, a state of eight well made types.
-/
import Derived.Test.YtbaeakbnoijkcaaGreatMT31
namespace Go.Proofs.YtbaeakbnoijkcaaGreat
open Go.RowKit
set_option linter.unusedVariables false
set_option linter.unusedSimpArgs false
set_option maxRecDepth 100000

theorem Hp.oneR {w : World} {b : Nat} {t : TypeId} {r : Bool} {s : St} (h : Hp w b t (stC r s)) : w.rangeAt b 0 (stC r s) := h.one
theorem writes_op (i : In) (h : i.wr.2 = true) (hr : i.right = true) : (i.wr = (i.d, true) /\ ((0 <= i.op /\ i.op <= 11) ∨ i.op = 13 ∨ i.op = 14)) ∨ (i.wr = (0, true) /\ i.op = 21) := by
 have ho := qAt (op := i.op) hr
 unfold In.wr writesL at h ⊢
 have hr' : ¬ rightB i.op i.d i.a i.b i.imm = false := by simp [show rightB i.op i.d i.a i.b i.imm = true from hr]
 rw [if_neg hr'] at h ⊢
 split
 ·rename_i hc; exact .inl ⟨rfl, by omega⟩
 ·rename_i hc
  have h : (i.op == 21) = true := by simpa [hc] using h
  by_cases h21 : i.op = 21
  ·exact .inr ⟨by simp [h21], h21⟩
  ·simp [h21] at h
theorem lmade_any (nm : Nat) (i : In) (r : Bool) (s : St) (w : World) (h8 : Made8 nm s) (hr : i.right = true) (hw : i.wr.2 = true) : Calls Tryz.prog 88 #[stV r s, i.v] w fun e w' => e = .returned (tyV (madeT i s)) /\ Below w.heap.size w w' := by
 have hop := writes_op i hw hr
 have hsrc := fun h => (qBs hr h).2
 have hrd := fun h => qBi hr h
 obtain ⟨op, d, a, b, imm⟩ := i
 simp only at hop hsrc hrd
 unfold madeT
 simp only
 by_cases h0 : op = 0
 ·subst h0; rw [if_pos rfl]; exact lmade_set nm d a b imm r s w h8 (hsrc (.inl (by omega)))
 rw [if_neg h0]
 by_cases h1 : op = 11 ∨ op = 13
 ·rw [if_pos h1]
  rcases h1 with rfl | rfl
  ·exact lmade_full11 d a b imm r s w
  ·exact lmade_full13 d a b imm r s w
 rw [if_neg h1]
 by_cases h2 : op = 14
 ·subst h2; rw [if_pos rfl]; exact lmade_map d a b imm r s w
 rw [if_neg h2]
 by_cases h3 : op = 21
 ·subst h3; rw [if_pos rfl]; exact lmade_call d a b imm r s w
 rw [if_neg h3]
 exact lmade_do nm op d a b imm r s w h8 (by omega) (hrd (.inl (by omega))) (hsrc (.inl (by omega)))
theorem lmade_as {nm : Nat} {i : In} {k lo hi m : Int} (r : Bool) {s : St} (w : World) (h : Hid (madeT i s = ⟨k, lo, hi, m⟩)) (h8 : Made8 nm s) (hr : i.right = true) (hw : i.wr.2 = true) : Calls Tryz.prog 88 #[stV r s, i.v] w fun e w' => e = .returned (.agg #[.int .i64 k, .int .u64 lo, .int .u64 hi, .int .i64 m]) /\ Below w.heap.size w w' := by
 have := lmade_any nm i r s w h8 hr hw
 rw [h.out] at this
 exact this
theorem owrites_as {op d a b imm n : Int} {ok : Bool} (h : Hid (writesL op d a b imm = (n, ok))) (w : World) : Calls Tryz.prog 58 #[instV op d a b imm] w fun e w' => e = .returned (.tuple #[.int .i64 n, .bool ok]) /\ Below w.heap.size w w' := by
 have := owrites_any op d a b imm w
 rw [h.out] at this
 exact this
theorem st_ret {fn : Func} {p : Tmp} {w w2 : World} {n B : Nat} {tmps : Array Value} {r : Bool} {s : St} (hr : fn.results = #[.cell p 111]) (hp : tmps.getD p undef = .pointer (some ⟨n, 0, none⟩)) (hx : StAt w2 n 0 r s) (h8 : s.length = 8) (hB : Below B w w2) :
  bodyPost Tryz.prog fn (fun e w' => e = .returned (stV r s) /\ Below B w w') .ret ⟨tmps, []⟩ w2 := by
 refine bodyPost_ret (v := stV r s) ?_ rfl ⟨rfl, hB⟩
 rw [qAk hr, hp]
 simp only [asAddr, Sem.run_pure, Result.andThen]
 exact run_loadVar_mid w2 n 0 _ _ _ hx Tryz.underlying111 rfl (sizeJ h8)
def zeroC : List Value := [.bool false, .int .i64 0, .int .u64 0, .int .u64 0, .int .i64 0, .int .i64 0, .int .u64 0, .int .u64 0, .int .i64 0, .int .i64 0, .int .u64 0, .int .u64 0, .int .i64 0, .int .i64 0, .int .u64 0, .int .u64 0, .int .i64 0, .int .i64 0, .int .u64 0, .int .u64 0, .int .i64 0, .int .i64 0, .int .u64 0, .int .u64 0, .int .i64 0, .int .i64 0, .int .u64 0, .int .u64 0, .int .i64 0, .int .i64 0, .int .u64 0, .int .u64 0, .int .i64 0]
theorem qAe : zeroC.length = 33 := rfl
theorem boxes3s (w : World) (r : Bool) (s : St) (op d a b imm : Int) : ∃ Z, Hid (Z = ((w.alloc (Obj.cells (stC r s).toArray 111)).alloc (instO op d a b imm)).alloc (Obj.cells #[.bool false, .int .i64 0, .int .u64 0, .int .u64 0, .int .i64 0, .int .i64 0, .int .u64 0, .int .u64 0, .int .i64 0, .int .i64 0, .int .u64 0, .int .u64 0, .int .i64 0, .int .i64 0, .int .u64 0, .int .u64 0, .int .i64 0, .int .i64 0, .int .u64 0, .int .u64 0, .int .i64 0, .int .i64 0, .int .u64 0, .int .u64 0, .int .i64 0, .int .i64 0, .int .u64 0, .int .u64 0, .int .i64 0, .int .i64 0, .int .u64 0, .int .u64 0, .int .i64 0] 111)) /\ Hid (Hp Z w.heap.size 111 (stC r s)) /\ Hid (Box Z (w.heap.size + 1) op d a b imm) /\ Hid (Hp Z (w.heap.size + 1 + 1) 111 zeroC) /\ Hid (Below w.heap.size w Z) /\ (Z.heap.size <= w.heap.size + 3 /\ w.heap.size + 3 <= Z.heap.size) :=
 ⟨_, rfl, ((Hp.new w (stC r s) _).alloc _).alloc _, ⟨by go_cell, by go_cell, by go_cell, by go_cell, by go_cell⟩, keepJ (by have := Hp.new ((w.alloc (Obj.cells (stC r s).toArray 111)).alloc (instO op d a b imm)) zeroC 111; simpa [zeroC] using this), keepJ (by go_grown), by simp⟩
def wrS (i : In) (s : St) : St := if i.wr.2 = true then s.set i.wr.1.toNat (madeT i s) else s
set_option maxHeartbeats 1600000 in
theorem lwritten_no (op d a b imm : Int) (n : Int) (r : Bool) (s : St) (w : World) (h8 : s.length = 8) (HW : Hid (writesL op d a b imm = (n, false))) : Calls Tryz.prog 68 #[stV r s, In.v ⟨op, d, a, b, imm⟩] w fun e w' => e = .returned (stV r s) /\ Below w.heap.size w w' := by
 obtain ⟨Z, HZ, HsZ, HbZ, HtZ, HBZ, hZz⟩ := boxes3s w r s op d a b imm
 obtain ⟨y0, y1, y2, y3, y4⟩ := HbZ.out
 have HSZ := keepJ (sizeJ (r := r) h8)
 have HSA := keepJ (sizeJA (r := r) h8)
 have HS1 := keepJ (qAz r s)
 go_enter Tryz.func68, Tryz.ntmps68
 go_wp2_with (first
  | (go_at_call 58; rw [<- HZ.out]; go_must (refine (owrites_as HW _).mono ?_); rintro e w1 ⟨rfl, hb1⟩; go_must (have hB1 := HBZ.out.trans (hb1.mono HBZ.out.size); have HL1 := keepJ (HsZ.out.below hb1 (by omega)).oneR; have Ht1 := keepJ (HtZ.out.below hb1 (by omega)); have HT1 := keepJ (show w1.there (w.heap.size + 1 + 1) 0 (stC r s).toArray.size from (by rw [qAu r h8]; exact Ht1.out.there (by rw [qAe]; omega)))))
  | ((with_reducible refine wpList_load_mid ?qa 111 (.tmp 2) ?qb w.heap.size 0 ?qc (stC r s) _ HL1.out Tryz.underlying111 ?qd HSZ.out ?qe); (case qa => rfl); (case qb => rfl); (case qc => rfl); (case qd => rfl))
  | ((with_reducible refine wpList_store_mid ?ra 111 (.tmp 4) (.tmp 19) ?rb (w.heap.size + 1 + 1) 0 (stC r s).toArray ?rc ?rd HT1.out HSA.out HS1.out ?re); (case ra => rfl); (case rb => rfl); (case rc => rfl); (case rd => rfl)))
 refine st_ret (n := w.heap.size + 1 + 1) rfl rfl ?_ h8 ?_
 ·exact (Ht1.out.box qAe h8).one
 ·exact hB1.trans (qAc (qAa _ _ _ _) (by omega) hB1.size)
set_option maxHeartbeats 1600000 in
theorem lwritten_do (nm : Nat) (op d a b imm : Int) (n : Nat) (k lo hi m : Int) (r : Bool) (s : St) (w : World) (h8 : Made8 nm s) (hn : n < 8) (hr : In.right ⟨op, d, a, b, imm⟩ = true) (HW : Hid (writesL op d a b imm = ((n : Int), true))) (HT : Hid (madeT ⟨op, d, a, b, imm⟩ s = ⟨k, lo, hi, m⟩)) : Calls Tryz.prog 68 #[stV r s, In.v ⟨op, d, a, b, imm⟩] w fun e w' => e = .returned (stV r (s.set n ⟨k, lo, hi, m⟩)) /\ Below w.heap.size w w' := by
 obtain ⟨Z, HZ, HsZ, HbZ, HtZ, HBZ, hZz⟩ := boxes3s w r s op d a b imm
 obtain ⟨y0, y1, y2, y3, y4⟩ := HbZ.out
 have h8' : (s.set n ⟨k, lo, hi, m⟩).length = 8 := by rw [List.length_set]; exact h8.1
 have HSZ := keepJ (sizeJ (r := r) h8.1)
 have HSZ2 := keepJ (sizeJ (r := r) h8')
 have HSA := keepJ (sizeJA (r := r) h8')
 have HS1 := keepJ (qAz r (s.set n ⟨k, lo, hi, m⟩))
 have HQ := keepJ (fun wx (h : Hp wx w.heap.size 111 (stC r s)) => (h.one.typ h8.1 hn : AtT wx w.heap.size (0 + 1 + n * 4) (s.getD n Ty.nil)))
 have hnI : (n : Int) < 8 := by omega
 have hwr : In.wr ⟨op, d, a, b, imm⟩ = ((n : Int), true) := HW.out
 have HRT := keepJ hr
 have HWR := keepJ (show (In.wr ⟨op, d, a, b, imm⟩).2 = true by rw [hwr])
 have H8 := keepJ h8
 clear hwr hr h8
 go_enter Tryz.func68, Tryz.ntmps68
 go_wp2_with (first
  | (go_at_call 58; rw [<- HZ.out]; go_must (refine (owrites_as HW _).mono ?_); rintro e w1 ⟨rfl, hb1⟩; go_must (have hB1 := HBZ.out.trans (hb1.mono HBZ.out.size); have hz1 := hb1.size; have Hs1 := keepJ (HsZ.out.below hb1 (by omega)); have HL1 := keepJ Hs1.out.oneR; have Ht1 := keepJ (HtZ.out.below hb1 (by omega)); obtain ⟨x0, x1, x2, x3, x4⟩ := Box.below HbZ.out hb1 (by omega); clear y0 y1 y2 y3 y4))
  | ((with_reducible refine wpList_load_mid ?qa 111 (.tmp 2) ?qb w.heap.size 0 ?qc (stC r s) _ HL1.out Tryz.underlying111 ?qd HSZ.out ?qe); (case qa => rfl); (case qb => rfl); (case qc => rfl); (case qd => rfl))
  | (go_at_call 88; go_must (refine (lmade_as (i := ⟨op, d, a, b, imm⟩) r w1 HT H8.out HRT.out HWR.out).mono ?_); rintro e w2 ⟨rfl, hb2⟩; go_must (have hB2 := hB1.trans (hb2.mono hB1.size); have hz2 := hb2.size; have Hs2 := keepJ (Hs1.out.below hb2 (by omega)); have Ht2 := keepJ (Ht1.out.below hb2 (by omega)); have HP2 := keepJ (Hs2.out.boxT H8.out.1 hn ⟨k, lo, hi, m⟩); have HL2 := keepJ HP2.out.oneR; have Hu2 := keepJ (Ht2.out.grown (qAa w.heap.size (tyC ⟨k, lo, hi, m⟩) w2 (1 + n * 4)) (fun e => by injection e with e; omega)); have HT2 := keepJ (show (setT w2 w.heap.size (1 + n * 4) ⟨k, lo, hi, m⟩).there (w.heap.size + 1 + 1) 0 (stC r (s.set n ⟨k, lo, hi, m⟩)).toArray.size from (by rw [qAu r h8']; exact Hu2.out.there (by rw [qAe]; omega))); obtain ⟨m0, m1, m2, m3⟩ := HQ.out w2 Hs2.out; simp only [Nat.zero_add] at m0 m1 m2 m3; have f0 := Hs2.out.frozen (1 + n * 4); have f1 := Hs2.out.frozen (1 + n * 4 + 1); have f2 := Hs2.out.frozen (1 + n * 4 + 2); have f3 := Hs2.out.frozen (1 + n * 4 + 3); clear HL1))
  | ((with_reducible refine wpList_load_mid ?pa 111 (.tmp 2) ?pb w.heap.size 0 ?pc (stC r (s.set n ⟨k, lo, hi, m⟩)) _ HL2.out Tryz.underlying111 ?pd HSZ2.out ?pe); (case pa => rfl); (case pb => rfl); (case pc => rfl); (case pd => rfl))
  | ((with_reducible refine wpList_store_mid ?ra 111 (.tmp 4) (.tmp 19) ?rb (w.heap.size + 1 + 1) 0 (stC r (s.set n ⟨k, lo, hi, m⟩)).toArray ?rc ?rd HT2.out HSA.out HS1.out ?re); (case ra => rfl); (case rb => rfl); (case rc => rfl); (case rd => rfl)))
 refine st_ret (n := w.heap.size + 1 + 1) rfl rfl ?_ h8' ?_
 ·exact (Hu2.out.box qAe h8').one
 ·exact (qAp (t := ⟨k, lo, hi, m⟩) (off := 1 + n * 4) hB2 (Nat.le_refl _)).trans (qAc (qAa _ _ _ _) (by omega) (qAp (t := ⟨k, lo, hi, m⟩) (off := 1 + n * 4) hB2 (Nat.le_refl _)).size)
theorem lwritten_any (nm : Nat) (i : In) (r : Bool) (s : St) (w : World) (h8 : Made8 nm s) (hr : i.right = true) : Calls Tryz.prog 68 #[stV r s, i.v] w fun e w' => e = .returned (stV r (wrS i s)) /\ Below w.heap.size w w' := by
 unfold wrS
 by_cases hw : i.wr.2 = true
 ·rw [if_pos hw]
  have hop := writes_op i hw hr
  have hd : ∃ n : Nat, n < 8 /\ i.wr = ((n : Int), true) := by
   rcases hop with ⟨h, ho⟩ | ⟨h, ho⟩
   ·have := qBb hr (by omega)
    exact ⟨i.d.toNat, by omega, by rw [h]; congr; omega⟩
   ·exact ⟨0, by omega, by rw [h]; rfl⟩
  obtain ⟨n, hn, he⟩ := hd
  obtain ⟨op, d, a, b, imm⟩ := i
  rw [he]
  exact lwritten_do nm op d a b imm n _ _ _ _ r s w h8 hn hr he rfl
 ·rw [if_neg hw]
  have hw' : i.wr.2 = false := by simpa using hw
  obtain ⟨op, d, a, b, imm⟩ := i
  exact lwritten_no op d a b imm _ r s w h8.1 (show writesL op d a b imm = (_, false) by rw [<- hw']; rfl)
end Go.Proofs.YtbaeakbnoijkcaaGreat
