/-
  JFits
  JLit3
-/
import Derived.Test.YtkcofelpndlplaaML29
import Derived.Deep.RegionHeld3
/-
  What the landed judge's fits answers. Condition: states of eight types.
-/
namespace Go.Proofs.Ytkcofelpndlplaa
open Go.RowKit
set_option linter.unusedVariables false
set_option linter.unusedSimpArgs false
set_option maxRecDepth 100000

theorem keepJ {p : Prop} (h : p) : Hid p := h
/-- The types of a state, as an array's value, and one of them. -/
theorem flatT_part {h : St} {k : Nat} {tk tl th tm : Int} (hk : k < h.length) (ht : h.getD k Ty.nil = ⟨tk, tl, th, tm⟩) : (flatT h).toArray.extract (k * 4) (k * 4 + 4) = #[.int .i64 tk, .int .u64 tl, .int .u64 th, .int .i64 tm] := by
  apply Array.ext_getElem?
  intro j
  rw [Array.getElem?_extract]
  by_cases hj : j < 4
  · have := flatT_at h k j hk hj
    rw [ht] at this
    have hl : (flatT h).length = h.length * 4 := flatT_len h
    rw [if_pos (by simp [hl]; omega)]
    simp only [List.getElem?_toArray]
    rw [this]
  · rw [if_neg (by simp; omega)]
    rw [Array.getElem?_eq_none (by simp; omega)]
theorem run_index9 {h : St} {k : Nat} {tk tl th tm : Int} (h8 : h.length = 8) (hk : k < 8) (ht : h.getD k Ty.nil = ⟨tk, tl, th, tm⟩) (w : World) :
    (Instr.index 52 (.agg (flatT h).toArray) (.int .i64 k)).run Try.prog w = .ok (.agg #[.int .i64 tk, .int .u64 tl, .int .u64 th, .int .i64 tm]) w := by
  have e := flatT_part (h := h) (k := k) (by omega) ht
  have h1 : (k : Int) < 8 := by omega
  have e' : (List.take 4 (List.drop (k * 4) (flatT h))).toArray = #[.int .i64 tk, .int .u64 tl, .int .u64 th, .int .i64 tm] := by
    rw [← e]; simp
  have hs : (Go.sizeOf 38).run Try.prog w = .ok 4 w := by simp [Go.sizeOf]; rfl
  have ha : (isAgg 38).run Try.prog w = .ok true w := by kernel_rfl
  simp [Instr.index, asIntOf, run_underlying Try.underlying52, part, hs, ha, h1, hk, e']
/-- The types of a state lie behind its first cell. -/
theorem StAt.types {w : World} {b o : Nat} {r : Bool} {s : St} (h : StAt w b o r s) : w.rangeAt b (o + 1) (flatT s) := fun j v hv => by
  have := h (j + 1) v (by unfold stC; rw [List.getElem?_cons_succ]; exact hv)
  rw [show o + 1 + j = o + (j + 1) by omega]
  exact this
theorem sizeA8 {s : St} (h : s.length = 8) : (Try.prog.info? 52).map (·.size) = some (flatT s).length := by rw [flatT_len, h]; kernel_rfl
def fitsAllS (s h : St) : Bool := (List.range 8).all fun k => fitsS (s.getD k Ty.nil) (h.getD k Ty.nil)
theorem ltypeFits_as {a b : Ty} {r : Bool} (h : Hid (r = fitsS a b)) (w : World) : Calls Try.prog 51 #[tyV a, tyV b] w fun e w' => e = .returned (.bool r) ∧ Below w.heap.size w w' := by
  rw [h.out]; exact ltypeFits_any a b w
theorem range_all {p : Nat → Bool} (k : Nat) : (List.range (k + 1)).all p = ((List.range k).all p && p k) := by rw [List.range_succ, List.all_append]; simp
theorem range_no {p : Nat → Bool} {k n : Nat} (hk : k < n) (h : p k = false) : (List.range n).all p = false := by
  rw [List.all_eq_false]
  exact ⟨k, List.mem_range.2 hk, by simp [h]⟩
set_option maxHeartbeats 1600000 in
theorem lfits_any (r r' : Bool) (s h : St) (w : World) (h8 : s.length = 8) (hh : h.length = 8) : Calls Try.prog 37 #[stV r s, stV r' h] w fun e w' => e = .returned (.bool (fitsAllS s h)) ∧ Below w.heap.size w w' := by
  obtain ⟨R, HR⟩ : ∃ R, Hid (R = fitsAllS s h) := ⟨_, rfl⟩
  rw [← HR.out]
  have HL : Hid (((w.alloc (stO r s)).alloc (stO r' h)).rangeAt (w.heap.size + 1) 1 (flatT h)) := by
    have := (stAt_new (w.alloc (stO r s)) r' h).types
    show World.rangeAt _ _ _ _
    simpa using this
  have hsz := sizeA8 hh
  have HZ : Hid ((Try.prog.info? 52).map (·.size) = some (flatT h).length) := hsz
  clear hsz
  have HA : Hid (∀ wr, Below ((w.alloc (stO r s)).alloc (stO r' h)).heap.size ((w.alloc (stO r s)).alloc (stO r' h)) wr → ∀ k, k < 8 → AtT wr w.heap.size (0 + 1 + k * 4) (s.getD k Ty.nil)) := fun wr hb k hk =>
    ((stAt_new w r s).below ((Below.refl _ _).alloc (Nat.le_refl _) _) (by simp) |>.typ h8 hk).below hb (by simp; omega)
  go_enter Try.func37, Try.ntmps37
  go_wp2_with ((with_reducible refine wpList_load_mid ?qa 52 (.tmp 7) ?qb (w.heap.size + 1) 1 ?qc (flatT h) _ HL.out Try.underlying52 ?qd HZ.out ?qe); (case qa => rfl); (case qb => rfl); (case qc => rfl); (case qd => rfl))
  obtain ⟨W2, HW2, HB2, hW2⟩ : ∃ W2, Hid (W2 = (w.alloc (stO r s)).alloc (stO r' h)) ∧ Hid (Below w.heap.size w W2) ∧ W2.heap.size ≤ w.heap.size + 2 ∧ w.heap.size + 2 ≤ W2.heap.size := ⟨_, rfl, keepJ (by go_grown), by simp, by simp⟩
  rw [← HW2.out] at HA ⊢
  clear HL HZ HW2
  go_loopw [9] (fun i wr => ∃ k : Nat, k ≤ 8 ∧ i = .int .i64 k ∧ Hid ((List.range k).all (fun k => fitsS (s.getD k Ty.nil) (h.getD k Ty.nil)) = true) ∧ Below W2.heap.size W2 wr) (fun i _ => 8 - (intOf i).toNat)
  case atStart => exact ⟨0, by omega, rfl, rfl, Below.refl _ _⟩
  case round =>
    obtain ⟨k, hk, rfl, HI, hbe⟩ := hrel
    have hwz := hbe.size
    by_cases hlt : k < 8
    · obtain ⟨tk, tl, th, tm, HT⟩ : ∃ k' lo hi m, Hid (h.getD k Ty.nil = ⟨k', lo, hi, m⟩) := ⟨_, _, _, _, rfl⟩
      obtain ⟨sk, sl, sh, sm, HS⟩ : ∃ k' lo hi m, Hid (s.getD k Ty.nil = ⟨k', lo, hi, m⟩) := ⟨_, _, _, _, rfl⟩
      have hidx := run_index9 hh hlt HT.out
      obtain ⟨q, HQ⟩ : ∃ q, Hid (q = fitsS ⟨sk, sl, sh, sm⟩ ⟨tk, tl, th, tm⟩) := ⟨_, rfl⟩
      have HQ' : Hid (fitsS (s.getD k Ty.nil) (h.getD k Ty.nil) = q) := by show _ = _; rw [HS.out, HT.out]; exact HQ.out.symm
      have hA := HA.out wr hbe k hlt
      rw [HS.out] at hA
      obtain ⟨a0, a1, a2, a3⟩ := hA
      simp only [Nat.zero_add] at a0 a1 a2 a3
      have hkI : (k : Int) < 8 := by omega
      have hn1 : ¬ w.heap.size = wr.heap.size := by omega
      have hn2 : ¬ wr.heap.size = w.heap.size := by omega
      have hn3 : w.heap.size < wr.heap.size := by omega
      go_wp2
      obtain ⟨Y, HY, HBY, hYz, b0, b1, b2, b3, g0, g1, g2, g3⟩ : ∃ Y, Hid (Y = wr.alloc (Obj.cells #[.int .i64 tk, .int .u64 tl, .int .u64 th, .int .i64 tm] 38)) ∧ Hid (Below wr.heap.size wr Y) ∧ wr.heap.size < Y.heap.size ∧
        Y.cell? ⟨wr.heap.size, 0, none⟩ = some (.int .i64 tk) ∧ Y.cell? ⟨wr.heap.size, 1, none⟩ = some (.int .u64 tl) ∧ Y.cell? ⟨wr.heap.size, 2, none⟩ = some (.int .u64 th) ∧ Y.cell? ⟨wr.heap.size, 3, none⟩ = some (.int .i64 tm) ∧
        Y.cell? ⟨w.heap.size, 1 + k * 4, none⟩ = some (.int .i64 sk) ∧ Y.cell? ⟨w.heap.size, 1 + k * 4 + 1, none⟩ = some (.int .u64 sl) ∧ Y.cell? ⟨w.heap.size, 1 + k * 4 + 2, none⟩ = some (.int .u64 sh) ∧ Y.cell? ⟨w.heap.size, 1 + k * 4 + 3, none⟩ = some (.int .i64 sm) :=
        ⟨_, rfl, keepJ (by go_grown), by simp, by go_cell, by go_cell, by go_cell, by go_cell, by go_cell, by go_cell, by go_cell, by go_cell⟩
      rw [← HY.out]
      clear a0 a1 a2 a3
      cases q with
      | true =>
        go_region_held3 (fun w' => (w'.cell? ⟨w.heap.size, 1 + k * 4, none⟩ = some (.int .i64 sk) ∧ w'.cell? ⟨w.heap.size, 1 + k * 4 + 1, none⟩ = some (.int .u64 sl) ∧ w'.cell? ⟨w.heap.size, 1 + k * 4 + 2, none⟩ = some (.int .u64 sh) ∧ w'.cell? ⟨w.heap.size, 1 + k * 4 + 3, none⟩ = some (.int .i64 sm)) ∧ w'.cell? ⟨wr.heap.size, 0, none⟩ = some (.int .i64 tk) ∧ w'.cell? ⟨wr.heap.size, 1, none⟩ = some (.int .u64 tl) ∧ w'.cell? ⟨wr.heap.size, 2, none⟩ = some (.int .u64 th) ∧ w'.cell? ⟨wr.heap.size, 3, none⟩ = some (.int .i64 tm))
          (first | exact hAt3 | exact ⟨⟨g0, g1, g2, g3⟩, b0, b1, b2, b3⟩)
          (first | (go_at_call 51; go_must (refine (ltypeFits_as HQ _).mono ?_); rintro e w3 ⟨rfl, hb3'⟩; go_must (have hb3 : Below Y.heap.size Y w3 := below_undrew hb3'; have hAt3 := At2.below (⟨⟨g0, g1, g2, g3⟩, b0, b1, b2, b3⟩ : At2 Y w.heap.size (1 + k * 4) ⟨sk, sl, sh, sm⟩ wr.heap.size 0 ⟨tk, tl, th, tm⟩) hb3 (by omega) (by omega); have hB3 : Below W2.heap.size W2 w3 := (hbe.trans (HBY.out.mono hwz)).trans (hb3.mono (by omega)); clear hb3')))
        go_wp2
        go_roundw
        case rel => exact ⟨k + 1, by omega, by go_num, by show _ = _; rw [range_all, HI.out, HQ'.out]; rfl, hB3⟩
        case measure => simp [intOf]; omega
      | false =>
        have HRf : Hid (R = false) := by show _ = _; rw [HR.out]; exact range_no hlt HQ'.out
        go_region_held3 (fun w' => (w'.cell? ⟨w.heap.size, 1 + k * 4, none⟩ = some (.int .i64 sk) ∧ w'.cell? ⟨w.heap.size, 1 + k * 4 + 1, none⟩ = some (.int .u64 sl) ∧ w'.cell? ⟨w.heap.size, 1 + k * 4 + 2, none⟩ = some (.int .u64 sh) ∧ w'.cell? ⟨w.heap.size, 1 + k * 4 + 3, none⟩ = some (.int .i64 sm)) ∧ w'.cell? ⟨wr.heap.size, 0, none⟩ = some (.int .i64 tk) ∧ w'.cell? ⟨wr.heap.size, 1, none⟩ = some (.int .u64 tl) ∧ w'.cell? ⟨wr.heap.size, 2, none⟩ = some (.int .u64 th) ∧ w'.cell? ⟨wr.heap.size, 3, none⟩ = some (.int .i64 tm))
          (first | exact hAt3 | exact ⟨⟨g0, g1, g2, g3⟩, b0, b1, b2, b3⟩)
          (first | (go_at_call 51; go_must (refine (ltypeFits_as HQ _).mono ?_); rintro e w3 ⟨rfl, hb3'⟩; go_must (have hb3 : Below Y.heap.size Y w3 := below_undrew hb3'; have hAt3 := At2.below (⟨⟨g0, g1, g2, g3⟩, b0, b1, b2, b3⟩ : At2 Y w.heap.size (1 + k * 4) ⟨sk, sl, sh, sm⟩ wr.heap.size 0 ⟨tk, tl, th, tm⟩) hb3 (by omega) (by omega); have hB3 : Below W2.heap.size W2 w3 := (hbe.trans (HBY.out.mono hwz)).trans (hb3.mono (by omega)); clear hb3')))
        go_wp2
        go_ret
        exact ⟨by rw [HRf.out]; rfl, HB2.out.trans (hB3.mono (by omega))⟩
    · obtain rfl : k = 8 := by omega
      have HRt : Hid (R = true) := by show _ = _; rw [HR.out]; exact HI.out
      go_wp2
      go_ret
      exact ⟨by rw [HRt.out]; rfl, HB2.out.trans (hbe.mono (by omega))⟩
theorem sizeJ {r : Bool} {s : St} (h : s.length = 8) : (Try.prog.info? 54).map (·.size) = some (stC r s).length := by rw [stC_len r h]; kernel_rfl
theorem sizeJA {r : Bool} {s : St} (h : s.length = 8) : (Try.prog.info? 54).map (·.size) = some (stC r s).toArray.size := by rw [stC_size r h]; kernel_rfl
theorem Made8.ends {nm : Nat} {s : St} (h : Made8 nm s) {k : Nat} (hk : k < 8) : wfS ((s.getD k Ty.nil).lo, (s.getD k Ty.nil).hi) := (h.get hk).ends
end Go.Proofs.Ytkcofelpndlplaa
/-
  What the landed judge's joined answers. Condition: ends of 64 bits.
-/
namespace Go.Proofs.Ytkcofelpndlplaa
open Go.RowKit
set_option linter.unusedVariables false
set_option maxRecDepth 100000

theorem seesS_two (w : World) (t : TypeId) (x X y Y : Int) (k : Nat) (hk : k = w.heap.size) : SeesS (w.alloc (.cells #[.int .u64 x, .int .u64 X, .int .u64 y, .int .u64 Y] t)) (.slice (some ⟨k, 0, none⟩) 2 2) [(x, X), (y, Y)] := by
  subst hk
  exact SeesS.lit w t [(x, X), (y, Y)] _ 2 rfl rfl (by simp)
theorem ljoin2_as {a A b B lo hi : Int} {ok : Bool} (ha : wfS (a, A)) (hb : wfS (b, B)) (h : Hid (optV (if joinB [(a, A), (b, B)] = true then some (joinL [(a, A), (b, B)]) else none) = .tuple #[.agg #[.int .u64 lo, .int .u64 hi], .bool ok]))
    (v : Value) (w : World) (hs : SeesS w v [(a, A), (b, B)]) : Calls Try.prog 46 #[v] w fun e w' => e = .returned (.tuple #[.agg #[.int .u64 lo, .int .u64 hi], .bool ok]) ∧ Below w.heap.size w w' := by
  have := ljoin_any v [(a, A), (b, B)] w hs (by intro s hs; simp at hs; rcases hs with rfl | rfl <;> assumption)
  rw [h.out] at this
  exact this
theorem join_letters (a A b B : Int) : ∃ lo hi ok, Hid (optV (if joinB [(a, A), (b, B)] = true then some (joinL [(a, A), (b, B)]) else none) = .tuple #[.agg #[.int .u64 lo, .int .u64 hi], .bool ok]) ∧ Hid (joinL [(a, A), (b, B)] = (lo, hi)) := by
  by_cases h : joinB [(a, A), (b, B)] = true
  · exact ⟨_, _, true, by show _ = _; rw [if_pos h]; rfl, rfl⟩
  · exact ⟨0, 0, false, by show _ = _; rw [if_neg h]; rfl, by show _ = _; unfold joinL; rw [if_neg h]⟩
/-- A function that ends with a type in its box, behind stores into it. -/
theorem box_ret4 {fn : Func} {p : Tmp} {w w2 : World} {n B : Nat} {tmps : Array Value} {k lo hi m : Int} (hr : fn.results = #[.cell p 38]) (hp : tmps.getD p undef = .pointer (some ⟨n, 0, none⟩))
    (hx : AtT w2 n 0 ⟨k, lo, hi, m⟩) (hB : Below B w w2) : bodyPost Try.prog fn (fun e w' => e = .returned (tyV ⟨k, lo, hi, m⟩) ∧ Below B w w') .ret ⟨tmps, []⟩ w2 := by
  refine bodyPost_ret (v := tyV ⟨k, lo, hi, m⟩) ?_ rfl ⟨rfl, hB⟩
  rw [results_cell hr, hp]
  simp only [asAddr, Sem.run_pure, Result.andThen]
  rw [run_boxT hx]
/-- A box of the zero type with two boxes beneath it and a row above it, and calls behind. -/
theorem kept_box3 {w w1 : World} {a b o : Obj} (h : Below ((((w.alloc a).alloc b).alloc (tyO Ty.nil)).alloc o).heap.size ((((w.alloc a).alloc b).alloc (tyO Ty.nil)).alloc o) w1) :
    Below w.heap.size w w1 ∧ w.heap.size + 1 + 1 + 1 < w1.heap.size ∧ Hid (BxT w1 (w.heap.size + 1 + 1) 0 Ty.nil) ∧ True ∧ True := by
  have h' : Below (((w.alloc a).alloc b).alloc (tyO Ty.nil)).heap.size (((w.alloc a).alloc b).alloc (tyO Ty.nil)) w1 := ((Below.refl _ _).alloc (Nat.le_refl _) o).trans (h.mono (by simp))
  obtain ⟨hB, hz, HX, _⟩ := box_kept h'
  have hs := h.size
  simp at hs hB HX
  exact ⟨((Below.refl _ _).alloc (Nat.le_refl _) a |>.alloc (by simp) b).trans (hB.mono (by omega)), by omega, HX, trivial, trivial⟩
theorem kept_box4 {w w1 w2 : World} {n : Nat} {o : Obj} (hB : Below w.heap.size w w1) (hz : n + 1 < w1.heap.size) (hx : Hid (BxT w1 n 0 Ty.nil)) (h : Below (w1.alloc o).heap.size (w1.alloc o) w2) :
    Below w.heap.size w w2 ∧ Hid (BxT w2 n 0 Ty.nil) ∧ w2.cell? ⟨n, 0, none⟩ = some (.int .i64 0) ∧ w2.cell? ⟨n, 1, none⟩ = some (.int .u64 0) ∧ w2.cell? ⟨n, 2, none⟩ = some (.int .u64 0) ∧ w2.cell? ⟨n, 3, none⟩ = some (.int .i64 0) ∧
    w2.frozen? ⟨n, 0, none⟩ = false ∧ w2.frozen? ⟨n, 1, none⟩ = false ∧ w2.frozen? ⟨n, 2, none⟩ = false ∧ w2.frozen? ⟨n, 3, none⟩ = false := by
  have hs := hB.size
  have hb1 : Below w1.heap.size w1 w2 := ((Below.refl _ _).alloc (Nat.le_refl _) o).trans (h.mono (by simp))
  have hX := hx.out.below hb1 (by omega)
  obtain ⟨⟨c0, c1, c2, c3⟩, f0, f1, f2, f3⟩ := hX
  exact ⟨hB.trans (hb1.mono hs), hx.out.below hb1 (by omega), c0, c1, c2, c3, f0, f1, f2, f3⟩
theorem join2_same (a : Ty) : join2 a a = a := by unfold join2; rw [if_pos ((eqT_iff a a).2 rfl)]
set_option maxHeartbeats 1600000 in
theorem ljoined_same (a : Ty) (w : World) : Calls Try.prog 29 #[tyV a, tyV a] w fun e w' => e = .returned (tyV a) ∧ Below w.heap.size w w' := by
  obtain ⟨k, lo, hi, m⟩ := a
  go_enter Try.func29, Try.ntmps29
  go_wp2
  exact box_ret4 rfl rfl ⟨by go_cell, by go_cell, by go_cell, by go_cell⟩ (by go_grown)
/-! ways -/
set_option maxHeartbeats 1600000 in
theorem ljoined_k_nil (ak al ah am bk bl bh bm : Int) (h : ¬ ak = bk) (w : World) : Calls Try.prog 29 #[tyV ⟨ak, al, ah, am⟩, tyV ⟨bk, bl, bh, bm⟩] w fun e w' => e = .returned (tyV ⟨0, 0, 0, 0⟩) ∧ Below w.heap.size w w' := by
  by_cases h1 : ak = 1
  · subst h1
    have h2 : ¬ bk = 1 := fun e => h e.symm
    go_enter Try.func29, Try.ntmps29
    go_wp2
    exact box_ret4 rfl rfl ⟨by go_cell, by go_cell, by go_cell, by go_cell⟩ (by go_grown)
  · go_enter Try.func29, Try.ntmps29
    go_wp2
    exact box_ret4 rfl rfl ⟨by go_cell, by go_cell, by go_cell, by go_cell⟩ (by go_grown)
set_option maxHeartbeats 1600000 in
theorem ljoined_l_num (al ah am bl bh bm : Int) (h : ¬ al = bl) (lo hi : Int) (ok : Bool) (ha : wfS (al, ah)) (hb : wfS (bl, bh))
    (HJ : Hid (optV (if joinB [(al, ah), (bl, bh)] = true then some (joinL [(al, ah), (bl, bh)]) else none) = .tuple #[.agg #[.int .u64 lo, .int .u64 hi], .bool ok])) (w : World) :
    Calls Try.prog 29 #[tyV ⟨1, al, ah, am⟩, tyV ⟨1, bl, bh, bm⟩] w fun e w' => e = .returned (tyV ⟨1, lo, hi, 0⟩) ∧ Below w.heap.size w w' := by
  go_enter Try.func29, Try.ntmps29
  go_wp2_with (first
    | (go_at_call 46; go_must (refine (ljoin2_as ha hb HJ _ _ (seesS_two _ _ _ _ _ _ _ (by simp))).mono ?_); rintro e w1 ⟨rfl, hb1⟩; go_must (obtain ⟨hB1, hz1, HX1, hc, hf⟩ := kept_box3 hb1; clear hb1))
    | (go_at_call 47; go_must (refine (lnumber_any _ _ _).mono ?_); rintro e w2 ⟨rfl, hb2⟩; go_must (obtain ⟨hB2, HX, c0, c1, c2, c3, f0, f1, f2, f3⟩ := kept_box4 hB1 hz1 HX1 hb2; clear hb2 hB1)))
  exact box_ret1 rfl rfl (t := ⟨1, lo, hi, 0⟩) HX.out hB2 (by omega)
set_option maxHeartbeats 1600000 in
theorem ljoined_l_nil (ak al ah am bl bh bm : Int) (h : ¬ al = bl) (h1 : ¬ ak = 1) (w : World) : Calls Try.prog 29 #[tyV ⟨ak, al, ah, am⟩, tyV ⟨ak, bl, bh, bm⟩] w fun e w' => e = .returned (tyV ⟨0, 0, 0, 0⟩) ∧ Below w.heap.size w w' := by
  go_enter Try.func29, Try.ntmps29
  go_wp2
  exact box_ret4 rfl rfl ⟨by go_cell, by go_cell, by go_cell, by go_cell⟩ (by go_grown)
set_option maxHeartbeats 1600000 in
theorem ljoined_h_num (al ah am bh bm : Int) (h : ¬ ah = bh) (lo hi : Int) (ok : Bool) (ha : wfS (al, ah)) (hb : wfS (al, bh))
    (HJ : Hid (optV (if joinB [(al, ah), (al, bh)] = true then some (joinL [(al, ah), (al, bh)]) else none) = .tuple #[.agg #[.int .u64 lo, .int .u64 hi], .bool ok])) (w : World) :
    Calls Try.prog 29 #[tyV ⟨1, al, ah, am⟩, tyV ⟨1, al, bh, bm⟩] w fun e w' => e = .returned (tyV ⟨1, lo, hi, 0⟩) ∧ Below w.heap.size w w' := by
  go_enter Try.func29, Try.ntmps29
  go_wp2_with (first
    | (go_at_call 46; go_must (refine (ljoin2_as ha hb HJ _ _ (seesS_two _ _ _ _ _ _ _ (by simp))).mono ?_); rintro e w1 ⟨rfl, hb1⟩; go_must (obtain ⟨hB1, hz1, HX1, hc, hf⟩ := kept_box3 hb1; clear hb1))
    | (go_at_call 47; go_must (refine (lnumber_any _ _ _).mono ?_); rintro e w2 ⟨rfl, hb2⟩; go_must (obtain ⟨hB2, HX, c0, c1, c2, c3, f0, f1, f2, f3⟩ := kept_box4 hB1 hz1 HX1 hb2; clear hb2 hB1)))
  exact box_ret1 rfl rfl (t := ⟨1, lo, hi, 0⟩) HX.out hB2 (by omega)
set_option maxHeartbeats 1600000 in
theorem ljoined_h_nil (ak al ah am bh bm : Int) (h : ¬ ah = bh) (h1 : ¬ ak = 1) (w : World) : Calls Try.prog 29 #[tyV ⟨ak, al, ah, am⟩, tyV ⟨ak, al, bh, bm⟩] w fun e w' => e = .returned (tyV ⟨0, 0, 0, 0⟩) ∧ Below w.heap.size w w' := by
  go_enter Try.func29, Try.ntmps29
  go_wp2
  exact box_ret4 rfl rfl ⟨by go_cell, by go_cell, by go_cell, by go_cell⟩ (by go_grown)
set_option maxHeartbeats 1600000 in
theorem ljoined_m_num (al ah am bm : Int) (h : ¬ am = bm) (lo hi : Int) (ok : Bool) (ha : wfS (al, ah)) (hb : wfS (al, ah))
    (HJ : Hid (optV (if joinB [(al, ah), (al, ah)] = true then some (joinL [(al, ah), (al, ah)]) else none) = .tuple #[.agg #[.int .u64 lo, .int .u64 hi], .bool ok])) (w : World) :
    Calls Try.prog 29 #[tyV ⟨1, al, ah, am⟩, tyV ⟨1, al, ah, bm⟩] w fun e w' => e = .returned (tyV ⟨1, lo, hi, 0⟩) ∧ Below w.heap.size w w' := by
  go_enter Try.func29, Try.ntmps29
  go_wp2_with (first
    | (go_at_call 46; go_must (refine (ljoin2_as ha hb HJ _ _ (seesS_two _ _ _ _ _ _ _ (by simp))).mono ?_); rintro e w1 ⟨rfl, hb1⟩; go_must (obtain ⟨hB1, hz1, HX1, hc, hf⟩ := kept_box3 hb1; clear hb1))
    | (go_at_call 47; go_must (refine (lnumber_any _ _ _).mono ?_); rintro e w2 ⟨rfl, hb2⟩; go_must (obtain ⟨hB2, HX, c0, c1, c2, c3, f0, f1, f2, f3⟩ := kept_box4 hB1 hz1 HX1 hb2; clear hb2 hB1)))
  exact box_ret1 rfl rfl (t := ⟨1, lo, hi, 0⟩) HX.out hB2 (by omega)
set_option maxHeartbeats 1600000 in
theorem ljoined_m_nil (ak al ah am bm : Int) (h : ¬ am = bm) (h1 : ¬ ak = 1) (w : World) : Calls Try.prog 29 #[tyV ⟨ak, al, ah, am⟩, tyV ⟨ak, al, ah, bm⟩] w fun e w' => e = .returned (tyV ⟨0, 0, 0, 0⟩) ∧ Below w.heap.size w w' := by
  go_enter Try.func29, Try.ntmps29
  go_wp2
  exact box_ret4 rfl rfl ⟨by go_cell, by go_cell, by go_cell, by go_cell⟩ (by go_grown)
/-- Two types joined. -/
theorem ljoined_any (a b : Ty) (w : World) (ha : wfS (a.lo, a.hi)) (hb : wfS (b.lo, b.hi)) : Calls Try.prog 29 #[tyV a, tyV b] w fun e w' => e = .returned (tyV (join2 a b)) ∧ Below w.heap.size w w' := by
  by_cases he : eqT a b = true
  · have e := (eqT_iff a b).1 he
    subst e
    rw [join2_same]
    exact ljoined_same a w
  obtain ⟨lo, hi, ok, HJ, HL⟩ := join_letters a.lo a.hi b.lo b.hi
  have HE : join2 a b = if a.k = 1 ∧ b.k = 1 then num2 lo hi else Ty.nil := by unfold join2; rw [if_neg he]; simp only [HL.out]
  rw [HE]
  clear HE HL
  obtain ⟨ak, al, ah, am⟩ := a
  obtain ⟨bk, bl, bh, bm⟩ := b
  simp only at ha hb HJ ⊢
  by_cases e0 : ak = bk
  case neg =>
    rw [if_neg (by omega)]
    exact ljoined_k_nil _ _ _ _ _ _ _ _ e0 w
  subst e0
  by_cases h1 : ak = 1
  · subst h1
    rw [if_pos ⟨rfl, rfl⟩]
    by_cases e1 : al = bl
    case neg => exact ljoined_l_num _ _ _ _ _ _ e1 lo hi ok ha hb HJ w
    subst e1
    by_cases e2 : ah = bh
    case neg => exact ljoined_h_num _ _ _ _ _ e2 lo hi ok ha hb HJ w
    subst e2
    refine ljoined_m_num _ _ _ _ (fun e3 => ?_) lo hi ok ha hb HJ w
    subst e3
    exact he ((eqT_iff _ _).2 rfl)
  · rw [if_neg (fun h => h1 h.1)]
    by_cases e1 : al = bl
    case neg => exact ljoined_l_nil _ _ _ _ _ _ _ e1 h1 w
    subst e1
    by_cases e2 : ah = bh
    case neg => exact ljoined_h_nil _ _ _ _ _ _ e2 h1 w
    subst e2
    refine ljoined_m_nil _ _ _ _ _ (fun e3 => ?_) h1 w
    subst e3
    exact he ((eqT_iff _ _).2 rfl)
end Go.Proofs.Ytkcofelpndlplaa
